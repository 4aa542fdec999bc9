import Derived.Test.YtmklodligplbaabGreatDr5k
open Go.RowKit
set_option linter.unusedVariables false
set_option linter.unusedSimpArgs false
set_option maxRecDepth 100000
set_option maxHeartbeats 0
namespace Go.Proofs.YtmklodligplbaabGreat
section
open Dlt
theorem applyB_lenK (bs xs : List UInt8) : (applyB bs xs).length <= 131072 := by
 unfold applyB
 split
 ·rename_i h0
  cases hd : decD xs with
  | none => simp
  | some d =>
   have hok := (decD_some hd).1
   unfold applyE at h0
   split at h0; · cases h0
   rw [hd] at h0
   simp only at h0
   split at h0
   ·rename_i hB
    show (doIs d.size bs d.steps).length <= _
    rw [doIs_len (by rw [hB.1]; exact hok.ins), hok.sum]
    have := hok.t2
    omega
   ·cases h0
 ·simp
theorem made_dec {width : Int} {Z : Nat} {xs ys : List UInt8} (hM : May (sign width xs Z)) : (∃ d, decD (makeB (sign width xs Z) ys) = some d ∧ xs.length = d.blen ∧ Sha.ident d.width xs = d.bid) ∨ makeB (sign width xs Z) ys = [] := by
 by_cases hm : makeE (sign width xs Z) ys = 0
 ·left
  have hB : makeB (sign width xs Z) ys = encD (makeD (sign width xs Z) ys) := by unfold makeB; rw [if_pos hm, makeX_enc]
  have hw0 : 0 <= width := by have := hM.w1; have e : (sign width xs Z).width = width := rfl; omega
  unfold makeE at hm
  rw [may_iff.2 hM, if_neg (by simp)] at hm
  split at hm
  ·cases hm
  ·rename_i h1
   split at hm
   ·cases hm
   ·rename_i h2
    split at hm
    ·cases hm
    ·rename_i h3
     have hO := makeD_ok (s := sign width xs Z) (t := ys) hM (by omega) (by omega) (nought_ident _ _)
     refine ⟨makeD (sign width xs Z) ys, by rw [hB]; exact decD_enc hO (by rw [<-makeX_enc]; omega), rfl, ?_⟩
     have e1 : (((makeD (sign width xs Z) ys).width : Nat) : Int) = width := Int.toNat_of_nonneg hw0
     rw [e1]
     rfl
 ·right
  unfold makeB
  rw [if_neg hm]
theorem apply_made (bo : Option Addr) (bn bc : Nat) (bs : List UInt8) (ao : Option Addr) (n cap : Nat) (xs : List UInt8) (w : World) (hb : InB8 w bo bn bc bs) (h : InB8 w ao n cap xs) (hl : bn <= 131072) (hm : (∃ d, decD xs = some d ∧ bs.length = d.blen ∧ Sha.ident d.width bs = d.bid) ∨ xs = []) :
  Calls Tryz.prog 16 #[.slice bo bn bc, .slice ao n cap] w fun e w' => TellB w w' e (applyE bs xs) (applyB bs xs) ∧ Kept [] w w' := by
 rcases hm with ⟨d, hd, _⟩ | rfl
 ·exact apply_some bo bn bc bs ao n cap xs w hb h hl d hd
 ·have e0 : decD [] = none := by
   unfold decD
   rw [if_pos (by decide)]
  have hbl := hb.len
  have e1 : applyE bs [] = 180 := by unfold applyE; rw [if_neg (by omega), e0]
  have e2 : applyB bs [] = [] := by unfold applyB; rw [e1, if_neg (by decide)]
  rw [e1, e2]
  exact apply_nil bo bn bc bs ao n cap w hb h hl
theorem makeB_len18 (s : Sig) (ys : List UInt8) : (makeB s ys).length <= 131072 := by
 unfold makeB
 split
 ·rename_i h
  unfold makeE at h
  split at h; · cases h
  split at h; · cases h
  split at h; · cases h
  split at h; · cases h
  omega
 ·simp
theorem own_sig {w : World} {base : Nat} {o : Option Addr} {c : Nat} {s : Sig} (h : OwnW w base (.slice o s.blocks.length c) s.blocks) : SigIn w s o s.blocks.length c := by
 obtain ⟨ao, cap, hv, hle, hw, _, hm⟩ := h.wks
 cases hv
 exact ⟨rfl, hle, hm, hw⟩
theorem cy_in8 {w : World} {g n cap : Nat} {xs : List UInt8} (h : Cy w g n cap xs) (hc : cap <= 9223372036854775807) : InB8 w (some ⟨g, 0, none⟩) n cap xs := ⟨h.len, by have := h.cap; omega, by have := h.cap; omega, h.sl, fun e => by cases e⟩
theorem ownB_cap {w : World} {base : Nat} {ao : Option Addr} {n cap : Nat} {xs : List UInt8} (h : OwnB w base (.slice ao n cap) xs) : cap <= 9223372036854775807 := by
 obtain ⟨_, _, e, _, _, _, h6, _⟩ := h.shape
 injection e with _ _ e
 subst e
 exact h6
theorem run_append_vals {P : Program} (t e : TypeId) (ht : P.underlying t = some (.slice e)) (hinf : (P.info? e).map (fun i => (i.zero, i.size, i.bytes)) = some (some (.slice none 0 0), 1, 24)) (w : World) (B : Nat) (v : Value) (n : Nat) (xs zs : List Value) (k : Nat) (hk : zs.length = k) (hown : w.ownsRow B e 1 v n xs) (h1 : ∀ a ∈ zs, a.oneCell' = true) (hl : n + k <= 1000000) (hb : B <= w.heap.size) :
  ∃ v' w', (Builtin.append_ #[t, t] t #[v, .slice (some ⟨w.heap.size, 0, none⟩) k k]).run P (w.alloc (.cells zs.toArray e)) = .ok v' w' ∧ w'.ownsRow B e 1 v' (n + k) (xs ++ zs) ∧ w.grownBy w' v.ownBlock := by
 obtain ⟨i0, hi, hz0, hz1, hz2⟩ := info_parts hinf
 have hnew := heap_new w (.cells zs.toArray e)
 have kN := ka w (.cells zs.toArray e)
 have hown' : (w.alloc (.cells zs.toArray e)).ownsRow B e 1 v n xs := own_keep hown (kept_grown (row := none) kN (by simp)) (Off.none _)
 obtain ⟨v', w', hrun, h1', hg, _, _⟩ := run_append_own_at (P := P) (w.alloc (.cells zs.toArray e)) B t t e i0 (.slice none 0 0) 1 24 ht hi hz0 hz1 hz2 rfl (by decide) v n xs hown' ⟨w.heap.size, 0, none⟩ k k zs (by omega)
  (fun j u hj => by rw [Addr.add_mid, Nat.zero_add, cell_of_row _ _ _ _ _ _ hnew]; simpa using hj) h1 (by unfold maxLen; omega) (by omega) (by simp; omega)
 refine ⟨v', w', hrun, h1', ?_⟩
 exact kept_grown (l := v.ownBlock.toList) ((kN.mono (by simp)).grown hg (fun k hk _ => by simp [hk])) (by simp)
section
variable {w wr wr' : World} {mb ml : Nat} {fb fl : Nat -> Rw} {vR vL : Value}
theorem Tk.addB3 (h : Tk w wr mb ml fb fl vR vL) {r1 r2 r3 : Rw} (h1 : r1.At 5 1 w.heap.size wr) (h2 : r2.At 5 1 w.heap.size wr) (h3 : r3.At 5 1 w.heap.size wr) (o1 : ∀ i, i < mb -> Off (fb i).blk r1.blk) (o2 : ∀ i, i < mb -> Off (fb i).blk r2.blk) (o3 : ∀ i, i < mb -> Off (fb i).blk r3.blk) (o12 : Off r1.blk r2.blk) (o13 : Off r1.blk r3.blk) (o23 : Off r2.blk r3.blk)
  {vR' : Value} (hn : wr'.ownsRow w.heap.size 27 1 vR' (mb + 3) (vals mb fb ++ [r1.val, r2.val, r3.val])) (hg : wr.grownBy wr' vR.ownBlock) : Tk w wr' (mb + 3) ml (upr (upr (upr fb mb r1) (mb + 1) r2) (mb + 2) r3) fl vR' vL := by
 have f1 : Fam 5 1 w.heap.size wr (mb + 3) (upr (upr (upr fb mb r1) (mb + 1) r2) (mb + 2) r3) := by
  refine ((h.bf.more h1 o1).more h2 (fun i hi => ?_)).more h3 (fun i hi => ?_)
  ·by_cases e : i = mb
   ·subst e; rw [upr_same]; exact o12
   ·rw [upr_other _ _ _ _ e]; exact o2 i (by omega)
  ·by_cases e : i = mb + 1
   ·subst e; rw [upr_same]; exact o23
   ·rw [upr_other _ _ _ _ e]
    by_cases e : i = mb
    ·subst e; rw [upr_same]; exact o13
    ·rw [upr_other _ _ _ _ e]; exact o3 i (by omega)
 have hbel : Below w.heap.size w wr' := by
  have hk : Kept vR.ownBlock.toList wr wr' := (Kept.refl _ wr).grown hg (fun k hk _ => by simp [hk])
  exact h.bel.trans (hk.below h.bel.size (fun g hg' => (World.ownsRow.lt h.oR g (by simpa using hg')).1))
 have hv : vals (mb + 3) (upr (upr (upr fb mb r1) (mb + 1) r2) (mb + 2) r3) = vals mb fb ++ [r1.val, r2.val, r3.val] := by
  rw [vals_succ, vals_succ, vals_succ, upr_same, upr_other _ _ _ _ (show mb + 1 ≠ mb + 2 by omega), upr_same, upr_other _ _ _ _ (show mb ≠ mb + 2 by omega), upr_other _ _ _ _ (show mb ≠ mb + 1 by omega), upr_same]
  rw [vals_congr (f := upr (upr (upr fb mb r1) (mb + 1) r2) (mb + 2) r3) (g := fb) (fun i hi => by rw [upr_other _ _ _ _ (by omega), upr_other _ _ _ _ (by omega), upr_other _ _ _ _ (by omega)])]
  simp
 refine ⟨hbel, f1.grow hg (fun i hi => own_types (f1.own i hi) h.oR (by decide)), h.lf.grow hg (fun i hi => own_types (h.lf.own i hi) h.oR (by decide)), by rw [hv]; exact hn, own_keep h.oL hg (own_types h.oL h.oR (by decide))⟩
end
def p3 {α : Type} (x y z : α) (a : Nat) : α := if a % 3 = 0 then x else if a % 3 = 1 then y else z
theorem p3_0 {α : Type} (x y z : α) (j : Nat) : p3 x y z (3 * j) = x := by simp [p3]
theorem p3_1 {α : Type} (x y z : α) (j : Nat) : p3 x y z (3 * j + 1) = y := by simp [p3, show (3 * j + 1) % 3 = 1 by omega]
theorem p3_2 {α : Type} (x y z : α) (j : Nat) : p3 x y z (3 * j + 2) = z := by simp [p3, show (3 * j + 2) % 3 = 2 by omega]
structure Kc (i : Nat) (X D G : List UInt8) (Y : List Wk) (fb fl : Nat -> Rw) : Prop where
 b : ∀ a, a < 3 * i -> (fb a).n = (p3 X D G a).length ∧ (fb a).vs = bys (p3 X D G a)
 l : ∀ a, a < 2 * i -> (fl a).n = Y.length ∧ (fl a).vs = wrows Y
theorem Kc.start (X D G : List UInt8) (Y : List Wk) (fb fl : Nat -> Rw) : Kc 0 X D G Y fb fl := ⟨fun a ha => absurd ha (by omega), fun a ha => absurd ha (by omega)⟩
theorem Kc.next {i : Nat} {X D G : List UInt8} {Y : List Wk} {fb fl : Nat -> Rw} (h : Kc i X D G Y fb fl) (a1 a2 a3 a4 a5 : Option Addr) (c1 c2 c3 c4 c5 : Nat) :
  Kc (i + 1) X D G Y (upr (upr (upr fb (3 * i) (rwB a1 c1 X)) (3 * i + 1) (rwB a2 c2 D)) (3 * i + 2) (rwB a3 c3 G)) (upr (upr fl (2 * i) (rwW a4 c4 Y)) (2 * i + 1) (rwW a5 c5 Y)) := by
 refine ⟨fun a ha => ?_, fun a ha => ?_⟩
 ·by_cases e1 : a = 3 * i + 2
  ·subst e1; rw [upr_same, p3_2]; exact ⟨rfl, rfl⟩
  ·rw [upr_other _ _ _ _ e1]
   by_cases e2 : a = 3 * i + 1
   ·subst e2; rw [upr_same, p3_1]; exact ⟨rfl, rfl⟩
   ·rw [upr_other _ _ _ _ e2]
    by_cases e3 : a = 3 * i
    ·subst e3; rw [upr_same, p3_0]; exact ⟨rfl, rfl⟩
    ·rw [upr_other _ _ _ _ e3]; exact h.b a (by omega)
 ·by_cases e1 : a = 2 * i + 1
  ·subst e1; rw [upr_same]; exact ⟨rfl, rfl⟩
  ·rw [upr_other _ _ _ _ e1]
   by_cases e2 : a = 2 * i
   ·subst e2; rw [upr_same]; exact ⟨rfl, rfl⟩
   ·rw [upr_other _ _ _ _ e2]; exact h.l a (by omega)
def rwG (g c n : Nat) (xs : List UInt8) : Rw := ⟨some ⟨g, 0, none⟩, c, n, bys xs⟩
theorem rwG_at {w : World} {base g n c : Nat} {xs : List UInt8} (h : OwnB w base (.slice (some ⟨g, 0, none⟩) (n + 40) c) (xs ++ bms)) (hn : xs.length = n) : (rwG g c n xs).At 5 1 base w := by
 have hl : (xs ++ bms).length = n + 40 := by rw [List.length_append, bms_len, hn]
 unfold OwnB at h
 rw [hl] at h
 rcases h.2 with ⟨h0, _⟩ | ⟨q, cap, cur, hv, hb, hg, hnc, hcm, hcs, htake⟩
 ·cases h0
 ·cases hv
  refine ⟨by show (bys xs).length = _; rw [bys_length]; show _ = n * 1; omega, .inr ⟨g, c, cur, rfl, hb, hg, by show n <= c; omega, hcm, hcs, ?_⟩⟩
  have h1 := congrArg (List.take n) htake
  rw [List.take_take, Nat.min_eq_left (by omega), bys_append, List.take_left' (by rw [bys_length, hn])] at h1
  show cur.toList.take (n * 1) = bys xs
  rw [Nat.mul_one]
  exact h1
theorem Tk.base {w w2 wr : World} {mb ml : Nat} {fb fl : Nat -> Rw} {vR vL : Value} (h : Tk w2 wr mb ml fb fl vR vL) (hk : Kept [] w w2) : Tk w wr mb ml fb fl vR vL := by
 refine ⟨(hk.below (Nat.le_refl _) (by simp)).trans (h.bel.mono hk.size), ⟨fun i hi => (h.bf.own i hi).base hk.size, h.bf.apart⟩, ⟨fun i hi => (h.lf.own i hi).base hk.size, h.lf.apart⟩, own_base h.oR hk.size, own_base h.oL hk.size⟩
theorem Tk.begin {w wr : World} {fb fl : Nat -> Rw} {vR vL : Value} {X D G zs us : List UInt8} {Y : List Wk} {g1 c1 g2 c2 n m : Nat} (h : Tk w wr (12 + 2) 8 (upr (upr fb 12 (rwG g1 c1 n zs)) (12 + 1) (rwG g2 c2 m us)) fl vR vL) (hc : Kc 4 X D G Y fb fl) (hX : X.length <= 140737488355200) (hD : D.length <= 140737488355200) (hG : G.length <= 140737488355200) (hz : zs.length = n) (hu : us.length = m) (hn : n <= 140737488355200) (hm : m <= 140737488355200) (hY : Y.length <= 2048) :
  Tm w wr 14 8 (upr (upr fb 12 (rwG g1 c1 n zs)) (12 + 1) (rwG g2 c2 m us)) fl vR vL 0 0 0 0 := by
 refine ⟨h, fun a ha => ?_, fun a ha => ?_⟩
 ·by_cases e1 : a = 12 + 1
  ·subst e1
   rw [upr_same]
   exact ⟨us, hu.symm, rfl, by omega, fun k _ hk => by omega⟩
  ·rw [upr_other _ _ _ _ e1]
   by_cases e2 : a = 12
   ·subst e2
    rw [upr_same]
    exact ⟨zs, hz.symm, rfl, by omega, fun k _ hk => by omega⟩
   ·rw [upr_other _ _ _ _ e2]
    obtain ⟨q1, q2⟩ := hc.b a (by omega)
    refine ⟨_, q1, q2, ?_, fun k _ hk => by omega⟩
    unfold p3
    split
    ·exact hX
    ·split
     ·exact hD
     ·exact hG
 ·obtain ⟨q1, q2⟩ := hc.l a (by omega)
  exact ⟨Y, q1, q2, hY, fun k _ hk => by omega⟩
end

section
open Dlt
namespace Dlt
def insU (wd : Int) (Z : Nat) (L : List Wk) : Nat -> List Stp -> List UInt8 -> List Stp
 | 0, acc, _ => acc
 | k + 1, acc, ys =>
  if ys = [] then acc
  else if ys.drop (nextI wd Z L ys).1 = [] then accL acc ys (nextI wd Z L ys).1
  else insU wd Z L k (accL acc ys (nextI wd Z L ys).1 ++ [.copy (nextI wd Z L ys).2 (cntW wd Z (L.drop (nextI wd Z L ys).2) (ys.drop (nextI wd Z L ys).1))]) ((ys.drop (nextI wd Z L ys).1).drop (cntW wd Z (L.drop (nextI wd Z L ys).2) (ys.drop (nextI wd Z L ys).1) * Z))
theorem accL_ge (acc : List Stp) (ys : List UInt8) (a : Nat) : acc.length <= (accL acc ys a).length := by unfold accL; split <;> simp
theorem insU_ge (wd : Int) (Z : Nat) (L : List Wk) : ∀ (k : Nat) (acc : List Stp) (ys : List UInt8), acc.length <= (insU wd Z L k acc ys).length
 | 0, acc, ys => Nat.le_refl _
 | k + 1, acc, ys => by
  unfold insU
  split
  ·exact Nat.le_refl _
  ·split
   ·exact accL_ge _ _ _
   ·refine Nat.le_trans (Nat.le_trans (accL_ge acc ys (nextI wd Z L ys).1) ?_) (insU_ge wd Z L k _ _)
    simp
theorem insF_U (wd : Int) (Z : Nat) (L : List Wk) : ∀ (k : Nat) (acc : List Stp) (ys : List UInt8), ((insF wd Z L k acc ys).length <= 2048 -> insU wd Z L k acc ys = insF wd Z L k acc ys) ∧ (2048 < (insF wd Z L k acc ys).length -> 2048 < (insU wd Z L k acc ys).length)
 | 0, acc, ys => ⟨fun _ => rfl, fun h => h⟩
 | k + 1, acc, ys => by
  unfold insF
  split
  ·next h =>
   rcases h with h | h
   ·have e : insU wd Z L (k + 1) acc ys = acc := by unfold insU; rw [if_pos h]
    rw [e]
    exact ⟨fun _ => rfl, fun h => h⟩
   ·exact ⟨fun h2 => absurd h2 (by omega), fun _ => Nat.lt_of_lt_of_le h (insU_ge ..)⟩
  ·next h =>
   have h1 : ¬ ys = [] := fun e => h (.inl e)
   unfold insU
   rw [if_neg h1]
   split
   ·exact ⟨fun _ => rfl, fun h => h⟩
   ·exact insF_U wd Z L k _ _
theorem insU_fuel {wd : Int} {Z : Nat} {L : List Wk} (hZ : 1 <= Z) : ∀ (k k' : Nat) (acc : List Stp) (ys : List UInt8), ys.length <= k -> ys.length <= k' -> insU wd Z L k acc ys = insU wd Z L k' acc ys
 | 0, k', acc, ys, h, _ => by
  have : ys = [] := List.length_eq_zero_iff.1 (by omega)
  subst this
  cases k' with
  | zero => rfl
  | succ k' => simp [insU]
 | k + 1, 0, acc, ys, _, h => by
  have : ys = [] := List.length_eq_zero_iff.1 (by omega)
  subst this
  simp [insU]
 | k + 1, k' + 1, acc, ys, h1, h2 => by
  unfold insU
  split
  ·rfl
  ·split
   ·rfl
   ·next h =>
    have := ins_short (L := L) (wd := wd) hZ h
    exact insU_fuel hZ k k' _ _ (by omega) (by omega)
def insV (wd : Int) (Z : Nat) (L : List Wk) (acc : List Stp) (ys : List UInt8) : List Stp := insU wd Z L ys.length acc ys
theorem insV_end {wd : Int} {Z : Nat} {L : List Wk} {acc : List Stp} {ys : List UInt8} (h3 : ys.drop (nextI wd Z L ys).1 = []) : insV wd Z L acc ys = if ys = [] then acc else accL acc ys (nextI wd Z L ys).1 := by
 unfold insV
 cases hk : ys.length with
 | zero =>
  have := List.length_eq_zero_iff.1 hk
  rw [if_pos this]
  rfl
 | succ k =>
  have h : ¬ ys = [] := fun e => by rw [e] at hk; simp at hk
  unfold insU
  rw [if_neg h, if_pos h3, if_neg h]
theorem insV_go {wd : Int} {Z : Nat} {L : List Wk} {acc : List Stp} {ys : List UInt8} (hZ : 1 <= Z) (h3 : ys.drop (nextI wd Z L ys).1 ≠ []) :
  insV wd Z L acc ys = insV wd Z L (accL acc ys (nextI wd Z L ys).1 ++ [.copy (nextI wd Z L ys).2 (cntW wd Z (L.drop (nextI wd Z L ys).2) (ys.drop (nextI wd Z L ys).1))]) ((ys.drop (nextI wd Z L ys).1).drop (cntW wd Z (L.drop (nextI wd Z L ys).2) (ys.drop (nextI wd Z L ys).1) * Z)) := by
 have h : ys ≠ [] := fun e => h3 (by rw [e, List.drop_nil])
 have hs := ins_short (L := L) (wd := wd) hZ h3
 conv => lhs; unfold insV
 cases hk : ys.length with
 | zero => exact absurd (List.length_eq_zero_iff.1 hk) h
 | succ k =>
  conv => lhs; unfold insU
  rw [if_neg h, if_neg h3]
  exact insU_fuel hZ _ _ _ _ (by omega) (Nat.le_refl _)
theorem wat_drop (ys : List UInt8) (Z p j : Nat) : wat (ys.drop p) Z j = wat ys Z (p + j) := by
 unfold wat
 rw [List.drop_drop]
theorem fitI_drop (wd : Int) (Z : Nat) (L : List Wk) (ys : List UInt8) (p j : Nat) : fitI wd Z L (ys.drop p) j = fitI wd Z L ys (p + j) := by
 unfold fitI
 rw [wat_drop]
structure Sto (wd : Int) (Z : Nat) (L : List Wk) (ys : List UInt8) (R acc : List Stp) (p q : Nat) : Prop where
 rest : insV wd Z L acc (ys.drop p) = R
 le : p <= q
 lq : q <= ys.length
 no : ∀ j, p <= j -> j < q -> fitI wd Z L ys j = none
theorem Sto.start (wd : Int) (Z : Nat) (L : List Wk) (ys : List UInt8) : Sto wd Z L ys (insV wd Z L [] ys) [] 0 0 := ⟨rfl, Nat.le_refl _, Nat.zero_le _, fun j _ h => by omega⟩
theorem Sto.skip {wd : Int} {Z : Nat} {L : List Wk} {ys : List UInt8} {R acc : List Stp} {p q : Nat} (h : Sto wd Z L ys R acc p q) (hZ : 1 <= Z) (hq : q + Z <= ys.length) (hf : fitI wd Z L ys q = none) : Sto wd Z L ys R acc p (q + 1) := by
 refine ⟨h.rest, by have := h.le; omega, by omega, fun j h1 h2 => ?_⟩
 by_cases hj : j = q
 ·rw [hj]; exact hf
 ·exact h.no j h1 (by omega)
def accP (acc : List Stp) (ys : List UInt8) (p q : Nat) : List Stp := if p < q then acc ++ [.lit ((ys.drop p).take (q - p))] else acc
theorem Sto.hit {wd : Int} {Z : Nat} {L : List Wk} {ys : List UInt8} {R acc : List Stp} {p q i : Nat} (h : Sto wd Z L ys R acc p q) (hZ : 1 <= Z) (hq : q + Z <= ys.length) (hf : fitI wd Z L ys q = some i) :
  i < L.length ∧ 1 <= cntW wd Z (L.drop i) (ys.drop q) ∧ q + cntW wd Z (L.drop i) (ys.drop q) * Z <= ys.length ∧ Sto wd Z L ys R (accP acc ys p q ++ [.copy i (cntW wd Z (L.drop i) (ys.drop q))]) (q + cntW wd Z (L.drop i) (ys.drop q) * Z) (q + cntW wd Z (L.drop i) (ys.drop q) * Z) := by
 have hle := h.le
 have hn : nextI wd Z L (ys.drop p) = (q - p, i) := by
  refine nextI_some (by rw [List.length_drop]; omega) (fun j hj => ?_) ?_
  ·rw [fitI_drop]; exact h.no _ (by omega) (by omega)
  ·rw [fitI_drop, show p + (q - p) = q by omega]; exact hf
 have hd : (ys.drop p).drop (q - p) = ys.drop q := by rw [List.drop_drop, show p + (q - p) = q by omega]
 have h3 : (ys.drop p).drop (nextI wd Z L (ys.drop p)).1 ≠ [] := by
  rw [hn, hd]
  intro e
  have := congrArg List.length e
  rw [List.length_drop] at this
  simp at this
  omega
 have hlt : (nextI wd Z L (ys.drop p)).1 < (ys.drop p).length := by rw [hn, List.length_drop]; show q - p < _; omega
 obtain ⟨hc1, hc2⟩ := next_cnt (wd := wd) (L := L) hZ hlt
 rw [hn, hd] at hc2
 rw [hn] at hc1
 have hc3 := (cntW_le wd Z (L.drop i) (ys.drop q)).2
 rw [List.length_drop] at hc3
 refine ⟨hc1, hc2, by omega, ⟨?_, Nat.le_refl _, by omega, fun j h1 h2 => by omega⟩⟩
 have hg := insV_go (acc := acc) hZ h3
 rw [hn, hd, List.drop_drop] at hg
 rw [<-h.rest, hg]
 congr 2
 show accP acc ys p q = accL acc (ys.drop p) (q - p)
 unfold accP accL
 by_cases hpq : p < q
 ·rw [if_pos hpq, if_pos (by omega)]
 ·rw [if_neg hpq, if_neg (by omega)]
theorem Sto.done {wd : Int} {Z : Nat} {L : List Wk} {ys : List UInt8} {R acc : List Stp} {p q : Nat} (h : Sto wd Z L ys R acc p q) (hZ : 1 <= Z) (hq : ys.length < q + Z) : accP acc ys p ys.length = R := by
 have hle := h.le
 have hlq := h.lq
 have hn : nextI wd Z L (ys.drop p) = ((ys.drop p).length, 0) := nextI_none (fun k hk => by
  rw [List.length_drop] at hk
  rw [fitI_drop]
  exact h.no _ (by omega) (by omega))
 have h3 : (ys.drop p).drop (nextI wd Z L (ys.drop p)).1 = [] := by rw [hn]; exact List.drop_of_length_le (Nat.le_refl _)
 rw [<-h.rest, insV_end h3, hn]
 unfold accP accL
 rw [List.length_drop]
 by_cases hp : p < ys.length
 ·rw [if_pos hp, if_neg (fun e => by have := congrArg List.length e; rw [List.length_drop] at this; simp at this; omega), if_pos (by omega)]
 ·rw [if_neg hp, if_pos (List.drop_of_length_le (by omega))]
theorem cnt_next {wd : Int} {Z : Nat} {L : List Wk} {ys : List UInt8} {i n q : Nat} (hi : i + n < L.length) (hq : q + Z <= ys.length) (hm : weak wd ((ys.drop q).take Z) = L.getD (i + n) wk0) : cntW wd Z (L.drop (i + n)) (ys.drop q) = cntW wd Z (L.drop (i + (n + 1))) (ys.drop (q + Z)) + 1 := by
 have hd : L.drop (i + n) = L.getD (i + n) wk0 :: L.drop (i + (n + 1)) := by
  rw [List.drop_eq_getElem_cons hi]
  congr 1
  simp [List.getElem?_eq_getElem hi]
 rw [hd]
 conv => lhs; unfold cntW
 rw [if_neg (by rw [List.length_drop]; omega), if_pos (by rw [wkEq_iff]; exact hm), List.drop_drop]
theorem cnt_stop {wd : Int} {Z : Nat} {L : List Wk} {ys : List UInt8} {i n q : Nat} (h : L.length <= i + n ∨ ys.length < q + Z ∨ ¬ weak wd ((ys.drop q).take Z) = L.getD (i + n) wk0) (hq : q <= ys.length) : cntW wd Z (L.drop (i + n)) (ys.drop q) = 0 := by
 by_cases hi : L.length <= i + n
 ·rw [List.drop_of_length_le hi]; rfl
 ·have hd : L.drop (i + n) = L.getD (i + n) wk0 :: L.drop (i + (n + 1)) := by
   rw [List.drop_eq_getElem_cons (by omega)]
   congr 1
   simp [List.getElem?_eq_getElem (show i + n < L.length by omega)]
  rw [hd]
  unfold cntW
  by_cases hz : ys.length < q + Z
  ·rw [if_pos (by rw [List.length_drop]; omega)]
  ·rw [if_neg (by rw [List.length_drop]; omega), if_neg]
   intro hw
   rw [wkEq_iff] at hw
   rcases h with h | h | h
   ·exact hi h
   ·exact hz h
   ·exact h hw
def makeV (s : Sig) (t : List UInt8) : List Stp := insV s.width s.size.toNat s.blocks [] t
theorem makeV_eq (s : Sig) (t : List UInt8) : ((insOf s t).length <= 2048 -> makeV s t = insOf s t) ∧ (2048 < (insOf s t).length -> 2048 < (makeV s t).length) := insF_U s.width s.size.toNat s.blocks t.length [] t
theorem fits_least {L : List Wk} {x : Int} {id : List UInt8} {k : Nat} (hk : k < L.length) (h1 : (L.getD k wk0).sum = x) (h2 : (L.getD k wk0).id = id) (h3 : ∀ j, j < k -> ¬ ((L.getD j wk0).sum = x ∧ (L.getD j wk0).id = id)) : leastI L x id = some k := by
 unfold leastI
 rw [List.find?_range_eq_some]
 refine ⟨by rw [Bool.and_eq_true, beq_iff_eq, beq_iff_eq]; exact ⟨h1, h2⟩, by simpa using hk, fun j hj => ?_⟩
 have := h3 j hj
 rw [Bool.not_eq_true', Bool.eq_false_iff]
 intro h
 rw [Bool.and_eq_true, beq_iff_eq, beq_iff_eq] at h
 exact this h
theorem fits_no {L : List Wk} {x : Int} {id : List UInt8} (h3 : ∀ j, j < L.length -> ¬ ((L.getD j wk0).sum = x ∧ (L.getD j wk0).id = id)) : leastI L x id = none := by
 unfold leastI
 rw [List.find?_eq_none]
 intro j hj
 have := h3 j (by simpa using hj)
 intro h
 rw [Bool.and_eq_true, beq_iff_eq, beq_iff_eq] at h
 exact this h
end Dlt
end

end Go.Proofs.YtmklodligplbaabGreat
