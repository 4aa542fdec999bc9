import Derived.Test.YtmklodligplbaabGreatD9ft
open Go.RowKit
set_option linter.unusedVariables false
set_option linter.unusedSimpArgs false
set_option maxRecDepth 100000
set_option maxHeartbeats 0
namespace Go.Proofs.YtmklodligplbaabGreat
section
namespace Dlt
def goodS (wd : Int) (Z : Nat) (L : List Wk) : Bool -> List Stp -> List UInt8 -> Prop
 | _, [], ys => ys = []
 | pl, .lit bs :: r, ys => pl = false ∧ bs ≠ [] ∧ bs.length <= ys.length ∧ bs = ys.take bs.length ∧ (∀ q, q + Z <= bs.length -> ∀ j, j < L.length -> L.getD j wk0 ≠ weak wd ((bs.drop q).take Z)) ∧ goodS wd Z L true r (ys.drop bs.length)
 | _, .copy f c :: r, ys => 1 <= c ∧ f + c <= L.length ∧ c * Z <= ys.length ∧ (∀ k, k < c -> L.getD (f + k) wk0 = weak wd ((ys.drop (k * Z)).take Z)) ∧ (∀ j, j < f -> L.getD j wk0 ≠ weak wd (ys.take Z)) ∧ goodS wd Z L false r (ys.drop (c * Z))
theorem leastI_none {L : List Wk} {x : Int} {id : List UInt8} (h : leastI L x id = none) : ∀ j, j < L.length -> ¬ ((L.getD j wk0).sum = x ∧ (L.getD j wk0).id = id) := fun j hj hh => by
 unfold leastI at h
 rw [List.find?_eq_none] at h
 have := h j (by simpa using hj)
 rw [hh.1, hh.2] at this
 simp at this
theorem find_first {p : Nat -> Bool} : ∀ {n i : Nat}, (List.range n).find? p = some i -> ∀ j, j < i -> p j = false
 | 0, i, h => by simp at h
 | n + 1, i, h => by
  rw [List.range_succ, List.find?_append] at h
  cases hf : (List.range n).find? p with
  | some k =>
   rw [hf] at h
   simp at h
   subst h
   exact find_first hf
  | none =>
   rw [hf] at h
   simp at h
   obtain ⟨_, rfl⟩ := h
   intro j hj
   rw [List.find?_eq_none] at hf
   have := hf j (by simpa using hj)
   simpa using this
theorem leastI_first {L : List Wk} {x : Int} {id : List UInt8} {i : Nat} (h : leastI L x id = some i) : ∀ j, j < i -> ¬ ((L.getD j wk0).sum = x ∧ (L.getD j wk0).id = id) := fun j hj hh => by
 have := find_first h j hj
 rw [hh.1, hh.2] at this
 simp at this
theorem weak_of {wd : Int} {b : List UInt8} {k : Wk} : k = weak wd b ↔ k.sum = (Rol.sum b : Nat) ∧ k.id = Sha.ident wd b := by
 constructor
 ·rintro rfl; exact ⟨rfl, rfl⟩
 ·intro h; exact Wk.ext' h.1 h.2
theorem fitI_none {wd : Int} {Z : Nat} {L : List Wk} {ys : List UInt8} {q : Nat} (h : fitI wd Z L ys q = none) : ∀ j, j < L.length -> L.getD j wk0 ≠ weak wd ((ys.drop q).take Z) := fun j hj he => by
 unfold fitI wat at h
 exact leastI_none h j hj (weak_of.1 he)
theorem cntW_at {wd : Int} {Z : Nat} : ∀ {L : List Wk} {ys : List UInt8} (k : Nat), k < cntW wd Z L ys -> L.getD k wk0 = weak wd ((ys.drop (k * Z)).take Z)
 | [], ys, k, h => by simp [cntW] at h
 | b :: L, ys, k, h => by
  unfold cntW at h
  split at h
  ·omega
  ·split at h
   ·rename_i he
    rw [wkEq_iff] at he
    cases k with
    | zero => simp [<-he]
    | succ k =>
     have := cntW_at (wd := wd) (Z := Z) (L := L) (ys := ys.drop Z) k (by omega)
     rw [List.getD_cons_succ, this, List.drop_drop]
     congr 3
     rw [Nat.add_mul, Nat.one_mul, Nat.add_comm]
   ·omega
theorem good_lit {wd : Int} {Z : Nat} {L : List Wk} {ys : List UInt8} {a : Nat} (ha : a <= ys.length) (hno : ∀ q, q + Z <= a -> fitI wd Z L ys q = none) {R : List Stp} (hR : ∀ pl, (pl = true -> 0 < a) -> goodS wd Z L pl R (ys.drop a)) : goodS wd Z L false ((if 0 < a then [.lit (ys.take a)] else []) ++ R) ys := by
 by_cases h : 0 < a
 ·rw [if_pos h]
  have hl : (ys.take a).length = a := by rw [List.length_take]; omega
  show goodS wd Z L false (.lit (ys.take a) :: R) ys
  refine ⟨rfl, fun e => ?_, by rw [hl]; exact ha, by rw [hl], fun q hq j hj => ?_, by rw [hl]; exact hR true (fun _ => h)⟩
  ·have := congrArg List.length e; rw [hl] at this; simp at this; omega
  ·rw [hl] at hq
   have := fitI_none (hno q hq) j hj
   rw [List.drop_take, List.take_take, Nat.min_eq_left (by omega)]
   exact this
 ·obtain rfl : a = 0 := by omega
  rw [if_neg h]
  have := hR false (fun h => by cases h)
  simpa using this
theorem insF_good {wd : Int} {Z : Nat} {L : List Wk} (hZ : 1 <= Z) : ∀ (k : Nat) (acc : List Stp) (ys : List UInt8), ys.length <= k -> (insF wd Z L k acc ys).length <= 2048 -> ∃ R, insF wd Z L k acc ys = acc ++ R ∧ goodS wd Z L false R ys
 | 0, acc, ys, h, _ => by
  have : ys = [] := List.length_eq_zero_iff.1 (by omega)
  subst this
  exact ⟨[], by simp [insF], rfl⟩
 | k + 1, acc, ys, h, hr => by
  unfold insF at hr ⊢
  split
  ·rename_i hc
   rw [if_pos hc] at hr
   rcases hc with hc | hc
   ·exact ⟨[], by simp, hc⟩
   ·omega
  ·rename_i hc
   rw [if_neg hc] at hr
   have hacc : ∀ a, accL acc ys a = acc ++ (if 0 < a then [.lit (ys.take a)] else []) := fun a => by unfold accL; split <;> simp
   split
   ·rename_i hd
    refine ⟨_, hacc _, ?_⟩
    rcases nextI_cases wd Z L ys with ⟨h1, h2⟩ | ⟨q, i, h1, h2, h3, h4⟩
    ·rw [h1] at hd ⊢
     have := good_lit (wd := wd) (Z := Z) (L := L) (ys := ys) (a := ys.length) (R := []) (Nat.le_refl _) (fun q hq => h2 q (by omega)) (fun pl _ => by simp [goodS])
     simpa using this
    ·rw [h1] at hd
     have := congrArg List.length hd
     rw [List.length_drop] at this
     simp at this
     omega
   ·rename_i hd
    rw [if_neg hd] at hr
    have hs := ins_short (L := L) (wd := wd) hZ hd
    obtain ⟨R, hR1, hR2⟩ := insF_good hZ k _ _ (by omega) hr
    rw [hR1, hacc]
    refine ⟨_, by rw [List.append_assoc, List.append_assoc], ?_⟩
    rcases nextI_cases wd Z L ys with ⟨h1, h2⟩ | ⟨q, i, h1, h2, h3, h4⟩
    ·exact absurd (by rw [h1]; simp) hd
    ·have hlt : (nextI wd Z L ys).1 < ys.length := by rw [h1]; show q < _; omega
     have hn := next_cnt hZ hlt
     rw [h1] at hn hR2 ⊢
     simp only at hn hR2 ⊢
     refine good_lit (by omega) (fun q' hq' => h4 q' (by omega)) (fun pl _ => ?_)
     have hcl := cntW_le wd Z (L.drop i) (ys.drop q)
     rw [List.length_drop] at hcl
     show goodS wd Z L pl (.copy i (cntW wd Z (L.drop i) (ys.drop q)) :: R) (ys.drop q)
     refine ⟨hn.2, by have := hn.1; omega, hcl.2, fun k' hk' => ?_, fun j hj he => ?_, hR2⟩
     ·have := cntW_at k' hk'
      rw [<-this]
      simp [List.getD, List.getElem?_drop]
     ·unfold fitI wat at h3
      exact leastI_first h3 j hj (weak_of.1 he)
theorem make_good {s : Sig} {t : List UInt8} (h : makeE s t = 0) : goodS s.width s.size.toNat s.blocks false (insOf s t) t ∧ May s ∧ decD (makeB s t) = some (makeD s t) ∧ t.length <= 131072 ∧ (makeB s t).length <= 131072 := by
 have h0 := h
 unfold makeE at h
 cases hm : may s with
 | false => rw [hm, if_pos rfl] at h; cases h
 | true =>
  rw [hm, if_neg (by simp)] at h
  have hM := may_iff.1 hm
  split at h
  ·cases h
  ·rename_i h1
   split at h
   ·cases h
   ·rename_i h2
    split at h
    ·cases h
    ·rename_i h3
     have hz1 : 1 <= s.size.toNat := by have := hM.z1; omega
     have hB : makeB s t = encD (makeD s t) := by unfold makeB; rw [if_pos h0, makeX_enc]
     obtain ⟨R, hR1, hR2⟩ := insF_good (wd := s.width) (L := s.blocks) hz1 t.length [] t (Nat.le_refl _) (show (insOf s t).length <= 2048 by omega)
     have hins : insOf s t = R := by
      have : insOf s t = insF s.width s.size.toNat s.blocks t.length [] t := rfl
      rw [this, hR1]; rfl
     refine ⟨by rw [hins]; exact hR2, hM, ?_, by omega, by rw [hB, <-makeX_enc]; omega⟩
     rw [hB]
     exact decD_enc (makeD_ok hM (by omega) (by omega) (nought_ident _ _)) (by rw [<-makeX_enc]; omega)
end Dlt
end

section
namespace Dlt
def openB (xs : List UInt8) : Option (List UInt8) :=
 if xs.length < 4 ∨ 131072 < xs.length then none
 else if Pure.be (xs.drop (xs.length - 4)) = Pure.sum (xs.take (xs.length - 4)) then some (xs.take (xs.length - 4)) else none
theorem openB_some {xs ys : List UInt8} (h : openB xs = some ys) : xs = sealed ys ∧ xs.length <= 131072 := by
 unfold openB at h
 split at h; · cases h
 rename_i h1
 split at h
 ·rename_i h2
  injection h with h
  subst h
  refine ⟨?_, by omega⟩
  have hk : (xs.drop (xs.length - 4)).length = 4 := by rw [List.length_drop]; omega
  have hf := Pure.fix_be (xs.drop (xs.length - 4))
  rw [hk, h2] at hf
  unfold sealed
  rw [hf, List.take_append_drop]
 ·cases h
theorem openB_sealed {ys : List UInt8} (h : (sealed ys).length <= 131072) : openB (sealed ys) = some ys := by
 have hl : (sealed ys).length = ys.length + 4 := by unfold sealed; rw [List.length_append, Pure.fix_len]
 have ht : (sealed ys).take ((sealed ys).length - 4) = ys := by rw [hl]; unfold sealed; simp
 have hd : (sealed ys).drop ((sealed ys).length - 4) = Pure.fix (Pure.sum ys) 4 := by rw [hl]; unfold sealed; simp
 unfold openB
 have hs : Pure.sum ys < 256 ^ 4 := by unfold Pure.sum; omega
 rw [if_neg (by omega), ht, hd, Pure.be_fix, Nat.mod_eq_of_lt hs, if_pos rfl]
def rheadOk (xs : List UInt8) : Bool :=
 decide (mk xs = 68) && (decide ((s4 xs).e = 0) && isW (nW xs) && isZ (nZ xs) && decide (nL xs <= 131072)) && (decide ((s7 xs).e = 0) && decide (nT xs <= 131072) && decide (nI xs <= 2048))
def rdD (xs : List UInt8) : Option Dta :=
 if rheadOk xs = false then none
 else match rdIs xs (cntB xs) (s7 xs) (nI xs).toNat with
  | none => none
  | some p =>
   if (decide (p.2.e = 0) && decide (stLeft xs p.2 = 0) && decide ((total (nZ xs).toNat p.1 : Int) = nT xs)) = false then none
   else some ⟨(nW xs).toNat, (nZ xs).toNat, (nL xs).toNat, idB xs, (nT xs).toNat, idT xs, p.1, pad_len _, pad_len _⟩
theorem At.stop {xs : List UInt8} {s : Rs} {ys zs : List UInt8} (h : At xs s ys zs) (h0 : stLeft xs s = 0) : xs = ys := by
 unfold stLeft at h0
 rw [if_pos h.e, h.len] at h0
 have : zs = [] := List.length_eq_zero_iff.1 (by omega)
 rw [h.x, this, List.append_nil]
theorem rdD_some {xs : List UInt8} {d : Dta} (h : rdD xs = some d) : OkD d ∧ xs = bodyD d := by
 unfold rdD at h
 split at h; · cases h
 rename_i h0
 split at h; · cases h
 rename_i p hp
 split at h; · cases h
 rename_i he
 injection h with h
 rw [Bool.not_eq_false] at h0 he
 simp only [rheadOk, Bool.and_eq_true, decide_eq_true_eq, isW, isZ, within_iff] at h0
 simp only [Bool.and_eq_true, decide_eq_true_eq] at he
 obtain ⟨⟨h2, ⟨⟨⟨he4, h3⟩, h4⟩, h5⟩⟩, ⟨⟨e7, h6⟩, h7⟩⟩ := h0
 have e6 : (s6 xs).e = 0 := num_e0 e7
 have e5 : (s5 xs).e = 0 := raw_e0 e6
 have eB : (sB xs).e = 0 := num_e0 e5
 have e4 : (s4 xs).e = 0 := raw_e0 eB
 have e3 : (s3 xs).e = 0 := num_e0 e4
 have e2 : (s2 xs).e = 0 := num_e0 e3
 have e1 : (s1 xs).e = 0 := num_e0 e2
 obtain ⟨m, z1, hm, _, _, a1⟩ := fix_bwd (At.start xs) (n := 1) (by omega) (by omega) e1
 have hm2 : m = 68 := by
  have : mk xs = (m : Int) := hm
  omega
 subst hm2
 obtain ⟨w, z2, hw, hw2, _, a2⟩ := num_bwd (s := s1 xs) a1 e2
 obtain ⟨z, z3, hz, hz2, _, a3⟩ := num_bwd (s := s2 xs) a2 e3
 obtain ⟨l, z4, hl, hl2, _, a4⟩ := num_bwd (s := s3 xs) a3 e4
 have hw : nW xs = (w : Int) := hw
 have hz : nZ xs = (z : Int) := hz
 have hl : nL xs = (l : Int) := hl
 have hwn : w <= 32 := by omega
 have hsB : sB xs = (stRaw xs (s4 xs) (w : Nat)).2 := by unfold sB; rw [hw]
 obtain ⟨z5, hr, _, a5⟩ := raw_bwd (s := s4 xs) (n := w) a4 (by rw [<-hsB]; exact eB)
 rw [<-hsB] at a5
 obtain ⟨t, z6, ht, ht2, _, a6⟩ := num_bwd (s := sB xs) a5 e5
 have ht : nT xs = (t : Int) := ht
 have hs6 : s6 xs = (stRaw xs (s5 xs) (w : Nat)).2 := by unfold s6; rw [hw]
 obtain ⟨z7, hr2, _, a7⟩ := raw_bwd (s := s5 xs) (n := w) a6 (by rw [<-hs6]; exact e6)
 rw [<-hs6] at a7
 obtain ⟨n, z8, hn, hn2, _, a8⟩ := num_bwd (s := s6 xs) a7 e7
 have hn : nI xs = (n : Int) := hn
 obtain ⟨hok, z9, a9⟩ := rdIs_bwd (s := s7 xs) a8 hp
 have hx := a9.stop he.1.2
 have hlen := rdIs_len hp
 rw [hn, Int.toNat_natCast] at hlen
 have hcb : cntB xs = l / z := by
  unfold cntB
  rw [hl, hz, <-Int.natCast_ediv, Int.toNat_natCast]
 have eB1 : idB xs = pad (stRaw xs (s4 xs) (w : Nat)).1 := by unfold idB; rw [hw]
 have eT1 : idT xs = pad (stRaw xs (s5 xs) (w : Nat)).1 := by unfold idT; rw [hw]
 have k1 : (nW xs).toNat = w := by omega
 have k2 : (nZ xs).toNat = z := by omega
 have k3 : (nL xs).toNat = l := by omega
 have k4 : (nT xs).toNat = t := by omega
 have d1 : d.width = w := by rw [<-h]; exact k1
 have d2 : d.size = z := by rw [<-h]; exact k2
 have d3 : d.blen = l := by rw [<-h]; exact k3
 have d4 : d.tlen = t := by rw [<-h]; exact k4
 have d5 : d.bid = pad (stRaw xs (s4 xs) (w : Nat)).1 := by rw [<-h]; exact eB1
 have d6 : d.tid = pad (stRaw xs (s5 xs) (w : Nat)).1 := by rw [<-h]; exact eT1
 have d7 : d.steps = p.1 := by rw [<-h]
 have hbody : bodyD d = [] ++ Pure.fix 68 1 ++ Pure.enc w ++ Pure.enc z ++ Pure.enc l ++ (stRaw xs (s4 xs) (w : Nat)).1 ++ Pure.enc t ++ (stRaw xs (s5 xs) (w : Nat)).1 ++ Pure.enc n ++ p.1.flatMap encI := by
  unfold bodyD headD
  rw [d1, d2, d3, d4, d5, d6, d7, pad_take hr hwn, pad_take hr2 hwn, hlen]
  simp only [List.append_assoc, List.nil_append]
 refine ⟨⟨by omega, by omega, by omega, by omega, by omega, by omega, ?_, ?_, ?_, ?_, ?_⟩, ?_⟩
 ·rw [d1, d5]; exact pad_nought hr hwn
 ·rw [d1, d6]; exact pad_nought hr2 hwn
 ·rw [d7, hlen]; omega
 ·rw [d7, d2, d3, <-hcb]; exact hok
 ·rw [d7, d2, d4]
  have := he.2
  rw [k2, ht] at this
  omega
 ·rw [hbody]; exact hx
theorem rdD_body {d : Dta} (h : OkD d) : rdD (bodyD d) = some d := by
 obtain ⟨xs, hxs⟩ := nm (bodyD d)
 have hW2 := h.w2
 have hx : xs = [] ++ (Pure.fix 68 1 ++ (Pure.enc d.width ++ (Pure.enc d.size ++ (Pure.enc d.blen ++ (d.bid.take d.width ++ (Pure.enc d.tlen ++ (d.tid.take d.width ++ (Pure.enc d.steps.length ++ (d.steps.flatMap encI ++ []))))))))) := by
  rw [<-hxs]
  unfold bodyD headD
  simp only [List.append_assoc, List.nil_append, List.append_nil]
 have a0 : At xs ⟨0, 0, 0⟩ [] _ := ⟨rfl, rfl, hx⟩
 obtain ⟨f1, a1⟩ := fix_fwd a0 (by omega) (by omega) (by omega)
 have g1 : mk xs = 68 := congrArg Prod.fst f1
 obtain ⟨f2, a2⟩ := num_fwd (s := s1 xs) a1 (by omega)
 have g2 : nW xs = (d.width : Int) := congrArg Prod.fst f2
 obtain ⟨f3, a3⟩ := num_fwd (s := s2 xs) a2 (by have := h.z2; omega)
 have g3 : nZ xs = (d.size : Int) := congrArg Prod.fst f3
 obtain ⟨f4, a4⟩ := num_fwd (s := s3 xs) a3 (by have := h.b2; omega)
 have g4 : nL xs = (d.blen : Int) := congrArg Prod.fst f4
 have hbl : (d.bid.take d.width).length = d.width := by rw [List.length_take, d.hb]; omega
 have htl : (d.tid.take d.width).length = d.width := by rw [List.length_take, d.ht]; omega
 obtain ⟨f5, a5⟩ := raw_fwd (s := s4 xs) (n := d.width) a4 hbl
 have g5 : (stRaw xs (s4 xs) (nW xs)).1 = d.bid.take d.width := by rw [g2]; exact congrArg Prod.fst f5
 have hsB : sB xs = (stRaw xs (s4 xs) (d.width : Nat)).2 := by unfold sB; rw [g2]
 rw [<-hsB] at a5
 obtain ⟨f6, a6⟩ := num_fwd (s := sB xs) a5 (by have := h.t2; omega)
 have g6 : nT xs = (d.tlen : Int) := congrArg Prod.fst f6
 obtain ⟨f7, a7⟩ := raw_fwd (s := s5 xs) (n := d.width) a6 htl
 have g7 : (stRaw xs (s5 xs) (nW xs)).1 = d.tid.take d.width := by rw [g2]; exact congrArg Prod.fst f7
 have hs6 : s6 xs = (stRaw xs (s5 xs) (d.width : Nat)).2 := by unfold s6; rw [g2]
 rw [<-hs6] at a7
 obtain ⟨f8, a8⟩ := num_fwd (s := s6 xs) a7 (by have := h.few; omega)
 have g8 : nI xs = (d.steps.length : Int) := congrArg Prod.fst f8
 have hcb : cntB xs = d.blen / d.size := by
  unfold cntB
  rw [g3, g4, <-Int.natCast_ediv, Int.toNat_natCast]
 have hnb : cntB xs <= 131072 := by rw [hcb]; exact Nat.le_trans (Nat.div_le_self _ _) h.b2
 obtain ⟨s8, r1, r2⟩ := rdIs_fwd hnb d.steps (by rw [hcb]; exact h.ins) (s := s7 xs) a8 d.steps.length (Nat.le_refl _)
 rw [List.take_of_length_le (Nat.le_refl _)] at r1 r2
 rw [List.drop_of_length_le (Nat.le_refl _), List.flatMap_nil] at r2
 simp only [List.nil_append] at r2
 have hbody : bodyD d = Pure.fix 68 1 ++ Pure.enc d.width ++ Pure.enc d.size ++ Pure.enc d.blen ++ d.bid.take d.width ++ Pure.enc d.tlen ++ d.tid.take d.width ++ Pure.enc d.steps.length ++ d.steps.flatMap encI := by
  unfold bodyD headD
  simp only [List.append_assoc]
 rw [<-hbody] at r2
 rw [hxs]
 have hle : s8.e = 0 := r2.e
 have hlf : stLeft xs s8 = 0 := by unfold stLeft; rw [if_pos hle, r2.len]; rfl
 have i0 : rheadOk xs = true := by
  simp only [rheadOk, Bool.and_eq_true, decide_eq_true_eq, isW, isZ, within_iff]
  have k4 : (s4 xs).e = 0 := a4.e
  have k7 : (s7 xs).e = 0 := a8.e
  rw [g1, g2, g3, g4, g6, g8]
  have := h.w1; have := h.z1; have := h.z2; have := h.b2; have := h.t2; have := h.few
  exact ⟨⟨rfl, ⟨⟨⟨k4, by omega⟩, by omega⟩, by omega⟩⟩, ⟨⟨k7, by omega⟩, by omega⟩⟩
 unfold rdD
 rw [i0, if_neg (by simp), g8, Int.toNat_natCast, r1]
 simp only
 have i1 : (decide (s8.e = 0) && decide (stLeft xs s8 = 0) && decide ((total (nZ xs).toNat d.steps : Int) = nT xs)) = true := by
  simp only [Bool.and_eq_true, decide_eq_true_eq]
  rw [g3, g6, Int.toNat_natCast, h.sum]
  exact ⟨⟨hle, hlf⟩, rfl⟩
 rw [i1, if_neg (by simp)]
 congr 1
 refine Dta.ext' (by show (nW xs).toNat = _; omega) (by show (nZ xs).toNat = _; omega) (by show (nL xs).toNat = _; omega) ?_ (by show (nT xs).toNat = _; omega) ?_ rfl
 ·show pad (stRaw xs (s4 xs) (nW xs)).1 = d.bid
  rw [g5]; exact pad_of_nought d.hb h.nb hW2
 ·show pad (stRaw xs (s5 xs) (nW xs)).1 = d.tid
  rw [g7]; exact pad_of_nought d.ht h.nt hW2
theorem decD_rdD (xs : List UInt8) : decD xs = (openB xs).bind rdD := by
 cases h : decD xs with
 | some d =>
  obtain ⟨h1, h2, h3⟩ := decD_some h
  subst h2
  have := openB_sealed (ys := bodyD d) h3
  unfold encD
  rw [this, Option.bind_some, rdD_body h1]
 | none =>
  cases ho : openB xs with
  | none => rfl
  | some ys =>
   rw [Option.bind_some]
   cases hr : rdD ys with
   | none => rfl
   | some d =>
    obtain ⟨h1, h2⟩ := rdD_some hr
    obtain ⟨h3, h4⟩ := openB_some ho
    have : xs = encD d := by rw [h3, h2]; rfl
    rw [this] at h4
    have h5 := decD_enc h1 h4
    rw [<-this, h] at h5
    cases h5
def rsigOf (xs : List UInt8) (k : Nat) : Sig := ⟨nW xs, nZ xs, nL xs, idB xs, (rdWs xs (nW xs) (sB xs) k).1, pad_len _⟩
def rheadS (xs : List UInt8) : Bool := decide (mk xs = 83) && (decide ((s4 xs).e = 0) && isW (nW xs) && isZ (nZ xs))
theorem rdS_some {xs : List UInt8} {k : Nat} (h0 : rheadS xs = true) (he : (rdWs xs (nW xs) (sB xs) k).2.e = 0) (hlf : stLeft xs (rdWs xs (nW xs) (sB xs) k).2 = 0) : xs = bodyS (rsigOf xs k) := by
 simp only [rheadS, Bool.and_eq_true, decide_eq_true_eq, isW, isZ, within_iff] at h0
 obtain ⟨h2, ⟨⟨e4, h3⟩, h4⟩⟩ := h0
 have eB : (sB xs).e = 0 := rdWs_e he
 have e3 : (s3 xs).e = 0 := num_e0 e4
 have e2 : (s2 xs).e = 0 := num_e0 e3
 have e1 : (s1 xs).e = 0 := num_e0 e2
 obtain ⟨m, z1, hm, _, _, a1⟩ := fix_bwd (At.start xs) (n := 1) (by omega) (by omega) e1
 have hm2 : m = 83 := by
  have : mk xs = (m : Int) := hm
  omega
 subst hm2
 obtain ⟨w, z2, hw, hw2, _, a2⟩ := num_bwd (s := s1 xs) a1 e2
 obtain ⟨z, z3, hz, hz2, _, a3⟩ := num_bwd (s := s2 xs) a2 e3
 obtain ⟨l, z4, hl, hl2, _, a4⟩ := num_bwd (s := s3 xs) a3 e4
 have hw : nW xs = (w : Int) := hw
 have hz : nZ xs = (z : Int) := hz
 have hl : nL xs = (l : Int) := hl
 have hwn : w <= 32 := by omega
 have eB' : (stRaw xs (s4 xs) (w : Nat)).2.e = 0 := by rw [<-hw]; exact eB
 obtain ⟨z5, hr, _, a5⟩ := raw_bwd (s := s4 xs) (n := w) a4 eB'
 have hq : (rdWs xs (w : Nat) (stRaw xs (s4 xs) (w : Nat)).2 k).2.e = 0 := by rw [<-hw]; exact he
 obtain ⟨z6, hk, a6⟩ := rdWs_bwd hwn a5 k hq
 have hx := a6.stop (by rw [<-hw]; exact hlf)
 have hb1 : (rsigOf xs k).blocks = (rdWs xs (w : Nat) (stRaw xs (s4 xs) (w : Nat)).2 k).1 := by
  show (rdWs xs (nW xs) (sB xs) k).1 = _
  rw [sB, hw]
 have hb2 : (rsigOf xs k).base = pad (stRaw xs (s4 xs) (w : Nat)).1 := by
  show idB xs = _
  rw [idB, hw]
 have hw3 : (rsigOf xs k).width.toNat = w := by show (nW xs).toNat = w; omega
 have hbody : bodyS (rsigOf xs k) = [] ++ Pure.fix 83 1 ++ Pure.enc w ++ Pure.enc z ++ Pure.enc l ++ (stRaw xs (s4 xs) (w : Nat)).1 ++ (rdWs xs (w : Nat) (stRaw xs (s4 xs) (w : Nat)).2 k).1.flatMap (encW w) := by
  unfold bodyS headS
  rw [hw3, hb1, hb2, pad_take hr hwn]
  have h1 : (rsigOf xs k).size.toNat = z := by show (nZ xs).toNat = z; omega
  have h2 : (rsigOf xs k).length.toNat = l := by show (nL xs).toNat = l; omega
  rw [h1, h2]
  rfl
 rw [hbody]; exact hx
theorem rdS_body {s : Sig} (h : May s) : rheadS (bodyS s) = true ∧ ∀ k, k <= s.blocks.length -> (rdWs (bodyS s) (nW (bodyS s)) (sB (bodyS s)) k).2.e = 0 ∧ (stLeft (bodyS s) (rdWs (bodyS s) (nW (bodyS s)) (sB (bodyS s)) k).2 = 0 -> k = s.blocks.length) ∧ (k = s.blocks.length -> stLeft (bodyS s) (rdWs (bodyS s) (nW (bodyS s)) (sB (bodyS s)) k).2 = 0 ∧ rsigOf (bodyS s) k = s) := by
 obtain ⟨W, hW⟩ := Int.eq_ofNat_of_zero_le (show 0 <= s.width by have := h.w1; omega)
 obtain ⟨Z, hZ⟩ := Int.eq_ofNat_of_zero_le (show 0 <= s.size by have := h.z1; omega)
 obtain ⟨N, hN⟩ := Int.eq_ofNat_of_zero_le h.l1
 have hW2 : W <= 32 := by have := h.w2; omega
 obtain ⟨xs, hxs⟩ := nm (bodyS s)
 have hx : xs = [] ++ (Pure.fix 83 1 ++ (Pure.enc W ++ (Pure.enc Z ++ (Pure.enc N ++ (s.base.take W ++ (s.blocks.flatMap (encW W) ++ [])))))) := by
  rw [<-hxs]
  unfold bodyS headS
  rw [hW, hZ, hN]
  simp only [Int.toNat_natCast, List.append_assoc, List.nil_append, List.append_nil]
  rfl
 have a0 : At xs ⟨0, 0, 0⟩ [] (Pure.fix 83 1 ++ (Pure.enc W ++ (Pure.enc Z ++ (Pure.enc N ++ (s.base.take W ++ (s.blocks.flatMap (encW W) ++ [])))))) := ⟨rfl, rfl, hx⟩
 obtain ⟨f1, a1⟩ := fix_fwd a0 (by omega) (by omega) (by omega)
 have g1 : mk xs = 83 := congrArg Prod.fst f1
 have a1 : At xs (s1 xs) ([] ++ Pure.fix 83 1) _ := a1
 obtain ⟨f2, a2⟩ := num_fwd a1 (by omega)
 have g2 : nW xs = (W : Int) := congrArg Prod.fst f2
 have a2 : At xs (s2 xs) _ _ := a2
 obtain ⟨f3, a3⟩ := num_fwd a2 (by have := h.z2; omega)
 have g3 : nZ xs = (Z : Int) := congrArg Prod.fst f3
 have a3 : At xs (s3 xs) _ _ := a3
 obtain ⟨f4, a4⟩ := num_fwd a3 (by have := h.l2; omega)
 have g4 : nL xs = (N : Int) := congrArg Prod.fst f4
 have a4 : At xs (s4 xs) _ _ := a4
 have hbl : (s.base.take W).length = W := by rw [List.length_take, s.hb]; omega
 obtain ⟨f5, a5⟩ := raw_fwd (n := W) a4 hbl
 have g5 : (stRaw xs (s4 xs) (nW xs)).1 = s.base.take W := by rw [g2]; exact congrArg Prod.fst f5
 have hsB : sB xs = (stRaw xs (s4 xs) (W : Nat)).2 := by unfold sB; rw [g2]
 rw [<-hsB] at a5
 rw [hxs]
 have hwt : s.width.toNat = W := by omega
 have hks := h.bks
 rw [hwt] at hks
 refine ⟨?_, fun k hk => ?_⟩
 ·simp only [rheadS, Bool.and_eq_true, decide_eq_true_eq, isW, isZ, within_iff]
  have k4 : (s4 xs).e = 0 := a4.e
  rw [g1, g2, g3]
  have := h.w1; have := h.w2; have := h.z1; have := h.z2
  exact ⟨rfl, ⟨⟨k4, by omega⟩, by omega⟩⟩
 ·obtain ⟨r1, r2⟩ := rdWs_fwd hW2 s.blocks hks a5 k hk
  rw [g2]
  have hlen := r2.len
  have hll : stLeft xs (rdWs xs (W : Nat) (sB xs) k).2 = (((4 + W) * (s.blocks.length - k) : Nat) : Int) := by
   unfold stLeft
   rw [if_pos r2.e, hlen, List.append_nil, encWs_len hW2, List.length_drop]
  refine ⟨r2.e, fun h0 => ?_, fun hkn => ⟨?_, ?_⟩⟩
  ·rw [hll] at h0
   have : (4 + W) * (s.blocks.length - k) = 0 := by omega
   rcases Nat.mul_eq_zero.1 this with h1 | h1 <;> omega
  ·rw [hll, hkn, Nat.sub_self, Nat.mul_zero]; rfl
  ·refine Sig.ext' (by show nW xs = _; rw [g2, hW]) (by show nZ xs = _; rw [g3, hZ]) (by show nL xs = _; rw [g4, hN]) ?_ ?_
   ·show pad (stRaw xs (s4 xs) (nW xs)).1 = s.base
    have := h.bas
    rw [hwt] at this
    rw [g5]; exact pad_of_nought s.hb this hW2
   ·show (rdWs xs (nW xs) (sB xs) k).1 = s.blocks
    rw [g2, r1, hkn, List.take_of_length_le (Nat.le_refl _)]
structure StopS (xs : List UInt8) (k : Nat) : Prop where
 was : ∀ j, j < k -> (rdWs xs (nW xs) (sB xs) j).2.e = 0 ∧ stLeft xs (rdWs xs (nW xs) (sB xs) j).2 ≠ 0
 end_ : (rdWs xs (nW xs) (sB xs) k).2.e = 0 -> stLeft xs (rdWs xs (nW xs) (sB xs) k).2 = 0
theorem decS_yes {xs ys : List UInt8} {k : Nat} (ho : openB xs = some ys) (h0 : rheadS ys = true) (hs : StopS ys k) (he : (rdWs ys (nW ys) (sB ys) k).2.e = 0) (hm : may (rsigOf ys k) = true) : decS xs = some (rsigOf ys k) := by
 have h1 := rdS_some h0 he (hs.end_ he)
 obtain ⟨h3, _⟩ := openB_some ho
 have : xs = encS (rsigOf ys k) := by rw [h3, encS, <-h1]
 rw [this, decS_enc (may_iff.1 hm)]
theorem decS_no_open {xs : List UInt8} (ho : openB xs = none) : decS xs = none := by
 cases h : decS xs with
 | none => rfl
 | some s =>
  obtain ⟨h1, h2⟩ := decS_some h
  have := openB_sealed (ys := bodyS s) (by have h3 := encS_len h1; unfold encS at h3; omega)
  unfold encS at h2
  rw [<-h2, ho] at this
  cases this
theorem decS_no_head {xs ys : List UInt8} (ho : openB xs = some ys) (h0 : rheadS ys = false) : decS xs = none := by
 cases h : decS xs with
 | none => rfl
 | some s =>
  obtain ⟨h1, h2⟩ := decS_some h
  have := openB_sealed (ys := bodyS s) (by have h3 := encS_len h1; unfold encS at h3; omega)
  unfold encS at h2
  rw [<-h2, ho] at this
  injection this with this
  subst this
  rw [(rdS_body h1).1] at h0
  cases h0
theorem decS_no {xs ys : List UInt8} {k : Nat} (ho : openB xs = some ys) (hs : StopS ys k) (hb : ¬ ((rdWs ys (nW ys) (sB ys) k).2.e = 0 ∧ may (rsigOf ys k) = true)) : decS xs = none := by
 cases h : decS xs with
 | none => rfl
 | some s =>
  obtain ⟨h1, h2⟩ := decS_some h
  have := openB_sealed (ys := bodyS s) (by have h3 := encS_len h1; unfold encS at h3; omega)
  unfold encS at h2
  rw [<-h2, ho] at this
  injection this with this
  subst this
  obtain ⟨_, hB⟩ := rdS_body h1
  have hk : k <= s.blocks.length := by
   apply Classical.byContradiction; intro hc
   exact (hs.was s.blocks.length (by omega)).2 ((hB _ (Nat.le_refl _)).2.2 rfl).1
  obtain ⟨h3, h4, h5⟩ := hB k hk
  have h6 := h4 (hs.end_ h3)
  exact absurd ⟨h3, by rw [(h5 h6).2]; exact may_iff.2 h1⟩ hb
end Dlt
end

section
namespace Pure
theorem N_byte (l : List UInt8) (i : Nat) (d : UInt8) (hi : i < l.length) : N (l.set i ((l.getD i 0) ^^^ d)) = N l ^^^ 2 ^ (8 * i) * d.toNat := by
 induction l generalizing i with
 | nil => simp at hi
 | cons c l ih =>
  cases i with
  | zero =>
   simp only [List.set_cons_zero, N, List.getD_cons_zero, Nat.mul_zero, Nat.pow_zero, Nat.one_mul]
   rw [UInt8.toNat_xor, Nat.xor_assoc, Nat.xor_comm d.toNat, <-Nat.xor_assoc]
  | succ i =>
   simp only [List.set_cons_succ, N, List.getD_cons_succ]
   rw [ih i (by simpa using hi), Nat.xor_assoc]
   congr 1
   apply Nat.eq_of_testBit_eq
   intro k
   rw [Nat.testBit_xor, show (256 : Nat) = 2 ^ 8 from rfl, Nat.testBit_two_pow_mul, Nat.testBit_two_pow_mul, Nat.testBit_xor, Nat.testBit_two_pow_mul, Nat.testBit_two_pow_mul]
   by_cases h : 8 <= k
   ·have e1 : (8 * (i + 1) <= k) = (8 * i <= k - 8) := by apply propext; omega
    have e2 : k - 8 * (i + 1) = k - 8 - 8 * i := by omega
    simp [h, e1, e2]
   ·have e3 : ¬ 8 * (i + 1) <= k := by omega
    simp [h, e3]
theorem sum_byte (l : List UInt8) (i : Nat) (d : UInt8) (hi : i < l.length) (hd : d ≠ 0) : sum (l.set i ((l.getD i 0) ^^^ d)) ≠ sum l := by
 refine sum_ne (at_ := 8 * i) (m := d.toNat) (by simp) ?_ (by have := UInt8.toNat_lt d; omega) (by intro h; exact hd (UInt8.toNat_inj.1 h)) (by simp; omega)
 rw [N_byte l i d hi, Nat.xor_comm (N l), Nat.xor_assoc, Nat.xor_self, Nat.xor_zero]
end Pure
theorem set_back (ys : List UInt8) (i : Nat) (d : UInt8) (hi : i < ys.length) : (ys.set i ((ys.getD i 0) ^^^ d)).set i (((ys.set i ((ys.getD i 0) ^^^ d)).getD i 0) ^^^ d) = ys := by
 have e : (ys.set i ((ys.getD i 0) ^^^ d)).getD i 0 = (ys.getD i 0) ^^^ d := by simp [List.getD, hi]
 rw [e, List.set_set, UInt8.xor_assoc, UInt8.xor_self, UInt8.xor_zero]
 apply List.ext_getElem?
 intro k
 rw [List.getElem?_set]
 split
 ·next h =>
  subst h
  simp [hi, List.getD]
 ·rfl
namespace Dlt
theorem sealed_len (ys : List UInt8) : (sealed ys).length = ys.length + 4 := by unfold sealed; rw [List.length_append, Pure.fix_len]
theorem openB_byte {ys : List UInt8} {i : Nat} {d : UInt8} (hi : i < (sealed ys).length) (hd : d ≠ 0) : openB ((sealed ys).set i (((sealed ys).getD i 0) ^^^ d)) = none := by
 cases h : openB ((sealed ys).set i (((sealed ys).getD i 0) ^^^ d)) with
 | none => rfl
 | some zs =>
  exfalso
  obtain ⟨he, _⟩ := openB_some h
  have hl : zs.length = ys.length := by
   have := congrArg List.length he
   rw [List.length_set, sealed_len, sealed_len] at this
   omega
  have ht : zs = ((sealed ys).set i (((sealed ys).getD i 0) ^^^ d)).take ys.length := by
   rw [he]; unfold sealed; rw [List.take_left' hl]
  have hdr : Pure.fix (Pure.sum zs) 4 = ((sealed ys).set i (((sealed ys).getD i 0) ^^^ d)).drop ys.length := by
   rw [he]; unfold sealed; rw [List.drop_left' hl]
  have hs : ∀ l : List UInt8, Pure.sum l < 256 ^ 4 := fun l => by unfold Pure.sum; omega
  by_cases hlt : i < ys.length
  ·have hg : (sealed ys).getD i 0 = ys.getD i 0 := by
    unfold sealed
    simp [List.getD, List.getElem?_append_left hlt]
   rw [hg] at ht hdr
   have h1 : zs = ys.set i ((ys.getD i 0) ^^^ d) := by
    rw [ht]; unfold sealed
    rw [List.set_append_left _ _ hlt, List.take_left' (by rw [List.length_set])]
   have h2 : Pure.fix (Pure.sum zs) 4 = Pure.fix (Pure.sum ys) 4 := by
    rw [hdr]; unfold sealed
    rw [List.set_append_left _ _ hlt, List.drop_left' (by rw [List.length_set])]
   have h3 := congrArg Pure.be h2
   rw [Pure.be_fix, Pure.be_fix, Nat.mod_eq_of_lt (hs _), Nat.mod_eq_of_lt (hs _), h1] at h3
   exact Pure.sum_byte ys i d hlt hd h3
  ·have hge : ys.length <= i := by omega
   have h1 : zs = ys := by
    rw [ht]; unfold sealed
    rw [List.set_append_right _ _ hge, List.take_left' rfl]
   rw [h1] at hdr
   have h2 : (sealed ys)[i]? = ((sealed ys).set i (((sealed ys).getD i 0) ^^^ d))[i]? := by
    rw [he, h1]
   rw [List.getElem?_set_self hi, List.getElem?_eq_getElem hi] at h2
   injection h2 with h2
   have h3 : (sealed ys).getD i 0 = (sealed ys)[i] := by simp [List.getD, List.getElem?_eq_getElem hi]
   rw [h3] at h2
   apply hd
   have h4 : (sealed ys)[i] ^^^ (sealed ys)[i] = (sealed ys)[i] ^^^ ((sealed ys)[i] ^^^ d) := congrArg ((sealed ys)[i] ^^^ ·) h2
   rw [<-UInt8.xor_assoc, UInt8.xor_self, UInt8.zero_xor] at h4
   exact h4.symm
theorem applyE_turned {b xs : List UInt8} {ys : List UInt8} {i : Nat} {d : UInt8} (hx : xs = sealed ys) (hi : i < xs.length) (hd : d ≠ 0) (hb : b.length <= 131072) : applyE b (xs.set i ((xs.getD i 0) ^^^ d)) = 180 ∧ applyB b (xs.set i ((xs.getD i 0) ^^^ d)) = [] := by
 subst hx
 have h0 : decD ((sealed ys).set i (((sealed ys).getD i 0) ^^^ d)) = none := by rw [decD_rdD, openB_byte hi hd]; rfl
 have h1 : applyE b ((sealed ys).set i (((sealed ys).getD i 0) ^^^ d)) = 180 := by
  unfold applyE
  rw [if_neg (by omega), h0]
 refine ⟨h1, ?_⟩
 unfold applyB
 rw [h1, if_neg (by decide)]
theorem decS_turned {xs ys : List UInt8} {i : Nat} {d : UInt8} (hx : xs = sealed ys) (hi : i < xs.length) (hd : d ≠ 0) : decS (xs.set i ((xs.getD i 0) ^^^ d)) = none := by
 subst hx
 exact decS_no_open (openB_byte hi hd)
end Dlt
end

section
open Dlt
theorem Tryz.zeroOrd (W : World) : (zeroValue 74).run Tryz.prog W = .ok (.agg (ordC 0 0 wk0 wk0 (.slice none 0 0)).toArray) W := by kernel_rfl
theorem Tryz.infoOrdS : (Tryz.prog.info? 74).map (·.size) = some 69 := by kernel_rfl
theorem ordC_size (W Z : Int) (bk tk : Wk) (v : Value) : (ordC W Z bk tk v).toArray.size = 69 := by rw [List.size_toArray, ordC_len]
theorem OrdAt.fr {w : World} {G : Nat} {W Z : Int} {bk tk : Wk} {v : Value} (h : OrdAt w G W Z bk tk v) (i : Nat) : w.frozen? ⟨G, i, none⟩ = false := frozen_of_row _ _ _ _ _ h.row
theorem OrdAt.lt {w : World} {G : Nat} {W Z : Int} {bk tk : Wk} {v : Value} (h : OrdAt w G W Z bk tk v) : G < w.heap.size := (gs h.row).1
theorem OrdAt.setW {w : World} {G : Nat} {W Z : Int} {bk tk : Wk} {v : Value} (h : OrdAt w G W Z bk tk v) (x : Int) : OrdAt (w.setCell ⟨G, 0, none⟩ (.int .i64 x)) G x Z bk tk v := ⟨by rw [heap_setCell_same w _ 0 _ _ _ h.row]; rfl⟩
theorem OrdAt.setZ {w : World} {G : Nat} {W Z : Int} {bk tk : Wk} {v : Value} (h : OrdAt w G W Z bk tk v) (x : Int) : OrdAt (w.setCell ⟨G, 1, none⟩ (.int .i64 x)) G W x bk tk v := ⟨by rw [heap_setCell_same w _ 1 _ _ _ h.row]; rfl⟩
theorem OrdAt.setV {w : World} {G : Nat} {W Z : Int} {bk tk : Wk} {v : Value} (h : OrdAt w G W Z bk tk v) (u : Value) : OrdAt (w.setCell ⟨G, 68, none⟩ u) G W Z bk tk u := by
 refine ⟨?_⟩
 rw [heap_setCell_same w _ 68 _ _ _ h.row]
 congr 2
 apply Array.ext'
 simp only [Array.toList_setIfInBounds, List.toList_toArray]
 unfold ordC
 rw [List.set_cons_succ, List.set_cons_succ, List.set_append_right _ _ (by rw [bk.len]; omega), bk.len, List.set_append_right _ _ (by rw [tk.len]; omega), tk.len]
 rfl
theorem OrdAt.there_b {w : World} {G : Nat} {W Z : Int} {bk tk : Wk} {v : Value} (h : OrdAt w G W Z bk tk v) : w.there G 2 33 := there_row h.row _ _ (by rw [ordC_size]; omega)
theorem OrdAt.there_t {w : World} {G : Nat} {W Z : Int} {bk tk : Wk} {v : Value} (h : OrdAt w G W Z bk tk v) : w.there G 35 33 := there_row h.row _ _ (by rw [ordC_size]; omega)
theorem OrdAt.setB {w : World} {G : Nat} {W Z : Int} {bk tk : Wk} {v : Value} (h : OrdAt w G W Z bk tk v) (e : Wk) : OrdAt (w.setCells G 2 e.cells) G W Z e tk v := by
 refine ⟨?_⟩
 rw [setCells_row _ _ _ _ _ _ h.row (by rw [e.len, ordC_len]; omega), setRow_heap _ _ _ _ _ _ h.row, e.len]
 congr 3
 unfold ordC
 show [.int .i64 W, .int .i64 Z] ++ (e.cells ++ (bk.cells ++ (tk.cells ++ [v])).drop 33) = _
 rw [List.drop_append, List.drop_of_length_le (by rw [bk.len]; exact Nat.le_refl _), bk.len]
 rfl
theorem OrdAt.setT {w : World} {G : Nat} {W Z : Int} {bk tk : Wk} {v : Value} (h : OrdAt w G W Z bk tk v) (e : Wk) : OrdAt (w.setCells G 35 e.cells) G W Z bk e v := by
 refine ⟨?_⟩
 rw [setCells_row _ _ _ _ _ _ h.row (by rw [e.len, ordC_len]; omega), setRow_heap _ _ _ _ _ _ h.row, e.len]
 congr 3
 have l1 : ([Value.int .i64 W, Value.int .i64 Z] ++ bk.cells).length = 35 := by rw [List.length_append, bk.len]; rfl
 have e1 : ordC W Z bk tk v = ([.int .i64 W, .int .i64 Z] ++ bk.cells) ++ (tk.cells ++ [v]) := by simp [ordC]
 have e2 : ordC W Z bk e v = ([.int .i64 W, .int .i64 Z] ++ bk.cells) ++ (e.cells ++ [v]) := by simp [ordC]
 rw [e1, e2, List.take_append_of_le_length (by omega), List.take_of_length_le (by omega), List.drop_append, List.drop_of_length_le (by omega), List.nil_append, l1, show 35 + 33 - 35 = 33 by omega, List.drop_append, List.drop_of_length_le (by rw [tk.len]; omega), List.nil_append, tk.len]
 simp
structure Lst (wr : World) (gL c : Nat) (vals : List Value) : Prop where
 row : wr.heap[gL]? = some (.cells (vals ++ List.replicate (c - vals.length) Value.nilIface).toArray 129 (0, 0))
 le : vals.length <= c
theorem Lst.kept {l : List Nat} {w1 w2 : World} {gL c : Nat} {vals : List Value} (h : Lst w1 gL c vals) (hk : Kept l w1 w2) (hn : gL ∉ l) : Lst w2 gL c vals := ⟨(hk.block gL (gs h.row).1 hn).trans h.row, h.le⟩
theorem Lst.cell {w : World} {gL c : Nat} {vals : List Value} (h : Lst w gL c vals) {i : Nat} {u : Value} (hu : vals[i]? = some u) : w.cell? ⟨gL, i, none⟩ = some u := by
 rw [cell_of_row _ _ _ _ _ _ h.row, List.getElem?_toArray, List.getElem?_append_left (List.getElem?_eq_some_iff.1 hu).1]
 exact hu
theorem Lst.next {w : World} {gL c : Nat} {vals : List Value} (h : Lst w gL c vals) (hl : vals.length < c) : w.cell? ⟨gL, vals.length, none⟩ = some .nilIface ∧ w.frozen? ⟨gL, vals.length, none⟩ = false := by
 refine ⟨?_, frozen_of_row _ _ _ _ _ h.row⟩
 rw [cell_of_row _ _ _ _ _ _ h.row, List.getElem?_toArray, List.getElem?_append_right (Nat.le_refl _), Nat.sub_self, List.getElem?_replicate, if_pos (by omega)]
theorem Lst.put {w : World} {gL c : Nat} {vals : List Value} (h : Lst w gL c vals) (hl : vals.length < c) (u : Value) : Lst (w.setCell ⟨gL, vals.length, none⟩ u) gL c (vals ++ [u]) := by
 refine ⟨?_, by rw [List.length_append, List.length_singleton]; omega⟩
 rw [heap_setCell_same w _ _ _ _ _ h.row]
 congr 2
 apply Array.ext'
 simp only [Array.toList_setIfInBounds, List.toList_toArray]
 rw [List.set_append_right _ _ (Nat.le_refl _), Nat.sub_self, List.length_append, List.length_singleton, show c - vals.length = (c - (vals.length + 1)) + 1 by omega, List.replicate_succ, List.set_cons_zero]
 simp
theorem run_makeI9 (w : World) (c : Nat) (h : c <= 1000000) : (Instr.makeSlice 67 (.int .i64 c) (.int .i64 c)).run Tryz.prog w = .ok (.slice (some ⟨w.heap.size, 0, none⟩) c c) (w.alloc (.cells (List.replicate c Value.nilIface).toArray 129)) := by
 obtain ⟨i0, hi, hz0, hz1, hz2⟩ := info_parts Tryz.infoIns8
 have hmk := run_make (P := Tryz.prog) w 67 129 i0 .nilIface Tryz.underlying67 hi hz0 .i64 .i64 c c (by omega) (by omega) (by rw [hz2]; omega) (by omega)
 rw [hz1] at hmk
 have e : madeCells (Value.nilIface).cells (c * 1) = (List.replicate c Value.nilIface).toArray := by
  apply Array.ext
  ·simp [size_madeCells]
  ·intro i h1 h2
   simp [madeCells, Value.cells, Nat.mod_one]
 simp only [Int.toNat_natCast, e] at hmk
 exact hmk
theorem Lst.new (w : World) (c : Nat) : Lst (w.alloc (.cells (List.replicate c Value.nilIface).toArray 129)) w.heap.size c [] := ⟨heap_new w _, Nat.zero_le _⟩
end

section
open Dlt
theorem Tryz.underSeal : Tryz.prog.underlying 71 = some (.struct (Tryz.prog.fieldsOf 71)) := by kernel_rfl
theorem Tryz.eqlSeal (A B : Wk) (W : World) : (Op.equalIn 10000 71 (.agg A.cells.toArray) (.agg B.cells.toArray)).run Tryz.prog W = .ok (wkEq A B) W := by
 rw [run_equalIn_struct (P := Tryz.prog) W 9999 71 _ _ Tryz.underSeal (by kernel_rfl)]
 simp (config := { decide := true }) only [Program.fieldsOf, Tryz.underlying71, Op.eqFields, Sem.run_bind, Sem.run_ite, ne_eq, not_false_eq_true, if_true, Tryz.partSum, Tryz.partWid, Result.andThen_ok, run_equalIn_int W 9998 3 .i64 .i64 _ _ Tryz.underlying3, Tryz.equalID 9997 A.id B.id A.hid B.hid]
 have e2 : (A.sum == B.sum) = decide (A.sum = B.sum) := by rw [Bool.eq_iff_iff]; simp
 rw [e2]
 unfold wkEq
 cases decide (A.sum = B.sum) <;> cases decide (A.id = B.id) <;> simp
end

end Go.Proofs.YtmklodligplbaabGreat
