import Derived.Test.YtmklodligplbaabGreatD8mo
import Derived.Maps.AppendAt
open Go.RowKit
set_option linter.unusedVariables false
set_option linter.unusedSimpArgs false
set_option maxRecDepth 100000
set_option maxHeartbeats 0
namespace Go.Proofs.YtmklodligplbaabGreat
section
open Dlt
end

section
open Dlt
structure InB8 (w : World) (ao : Option Addr) (n cap : Nat) (xs : List UInt8) : Prop where
 len : xs.length = n
 le : n <= cap
 max : n <= 9223372036854775807
 sl : Sl w ao xs
 nil : ao = none -> xs = [] ∧ cap = 0
theorem InB8.kept {w w' : World} {ao : Option Addr} {n cap : Nat} {xs : List UInt8} (h : InB8 w ao n cap xs) (hk : Kept [] w w') : InB8 w' ao n cap xs := ⟨h.len, h.le, h.max, h.sl.kept hk (by simp), h.nil⟩
theorem OwnW.ge {w : World} {base : Nat} {v : Value} {L : List Wk} (h : OwnW w base v L) {g : Nat} (hg : v.ownBlock = some g) : base <= g := by
 obtain ⟨ao5, c5, e5, _, _, hb5, _⟩ := h.wks
 cases ao5 with
 | none => rw [e5] at hg; simp [Value.ownBlock] at hg
 | some a5 => obtain ⟨g5, rfl, h5, _, h6⟩ := hb5 a5 rfl; rw [hg] at h6; cases h6; exact h5
end

section
open Dlt
namespace Dlt
def idxs (L : List Wk) (x : Int) (k : Nat) : List Nat := (List.range k).filter fun i => (L.getD i wk0).sum == x
theorem idxs_succ (L : List Wk) (x : Int) (k : Nat) : idxs L x (k + 1) = if (L.getD k wk0).sum = x then idxs L x k ++ [k] else idxs L x k := by
 unfold idxs
 rw [List.range_succ, List.filter_append]
 by_cases h : (L.getD k wk0).sum = x
 ·rw [if_pos h]
  congr 1
  simp only [List.filter_cons, List.filter_nil]
  rw [if_pos (by simpa using h)]
 ·rw [if_neg h]
  simp only [List.filter_cons, List.filter_nil]
  rw [if_neg (by simpa using h), List.append_nil]
theorem idxs_len (L : List Wk) (x : Int) (k : Nat) : (idxs L x k).length <= k := by
 unfold idxs
 exact Nat.le_trans (List.length_filter_le _ _) (by simp)
theorem idxs_mem {L : List Wk} {x : Int} {k i : Nat} (h : i ∈ idxs L x k) : i < k ∧ (L.getD i wk0).sum = x := by
 unfold idxs at h
 rw [List.mem_filter, List.mem_range] at h
 exact ⟨h.1, by simpa using h.2⟩
def leastI (L : List Wk) (x : Int) (id : List UInt8) : Option Nat := (List.range L.length).find? fun i => (L.getD i wk0).sum == x && (L.getD i wk0).id == id
theorem leastI_idxs (L : List Wk) (x : Int) (id : List UInt8) : leastI L x id = (idxs L x L.length).find? fun i => (L.getD i wk0).id == id := by
 unfold leastI idxs
 rw [List.find?_filter]
 congr 1
 funext a
 rw [Bool.eq_iff_iff]
 simp
def ivs (l : List Nat) : List Value := l.map fun n : Nat => .int .i64 (n : Int)
theorem ivs_snoc (l : List Nat) (k : Nat) : ivs (l ++ [k]) = ivs l ++ [.int .i64 k] := by simp [ivs]
end Dlt
theorem Tryz.infoInt8 : (Tryz.prog.info? 3).map (fun i => (i.zero, i.size, i.bytes)) = some (some (.int .i64 0), 1, 8) := by kernel_rfl
theorem Tryz.zeroInts8 (w : World) : (zeroValue 155).run Tryz.prog w = .ok (.slice none 0 0) w := by kernel_rfl
theorem own_same {w w' : World} {base : Nat} {e : TypeId} {s : Nat} {v : Value} {n : Nat} {xs : List Value} (h : w.ownsRow base e s v n xs) (hs : ∀ g, v.ownBlock = some g -> w'.heap[g]? = w.heap[g]?) : w'.ownsRow base e s v n xs := by
 refine ⟨h.1, ?_⟩
 rcases h.2 with h1 | ⟨g, cap, cur, rfl, h2, h3, h4⟩
 ·exact .inl h1
 ·exact .inr ⟨g, cap, cur, rfl, h2, (hs g rfl).trans h3, h4⟩
theorem own_blk {w : World} {base : Nat} {e : TypeId} {s : Nat} {v : Value} {n : Nat} {xs : List Value} (h : w.ownsRow base e s v n xs) {g : Nat} (hg : v.ownBlock = some g) : base <= g ∧ g < w.heap.size ∧ ∃ cur, w.heap[g]? = some (.cells cur e (0, 0)) := by
 rcases h.2 with ⟨rfl, _⟩ | ⟨g', cap, cur, rfl, h2, h3, _⟩
 ·cases hg
 ·simp only [Value.ownBlock, Option.some.injEq] at hg
  subst hg
  exact ⟨h2, (gs h3).1, cur, h3⟩
structure Fm (w : World) (base M : Nat) (L : List Wk) (k : Nat) (K : List Int) (V : List Value) : Prop where
 map : Ik w M K V
 rows : ∀ (j : Nat) x v, K[j]? = some x -> V[j]? = some v -> w.ownsRow base 3 1 v (idxs L x k).length (ivs (idxs L x k))
 full : ∀ x, idxs L x k ≠ [] -> x ∈ K
 apart : ∀ (i j : Nat) u v g, i ≠ j -> V[i]? = some u -> V[j]? = some v -> u.ownBlock = some g -> v.ownBlock ≠ some g
theorem Fm.kept {w w' : World} {base M : Nat} {L : List Wk} {k : Nat} {K : List Int} {V : List Value} (h : Fm w base M L k K V) (hk : Kept [] w w') : Fm w' base M L k K V :=
 ⟨h.map.kept hk (by simp), fun j x v h1 h2 => own_same (h.rows j x v h1 h2) (fun g hg => hk.block g (own_blk (h.rows j x v h1 h2) hg).2.1 (by simp)), h.full, h.apart⟩
theorem Fm.start (w : World) (base M : Nat) (L : List Wk) (h : Ik w M [] []) : Fm w base M L 0 [] [] := ⟨h, by simp, by simp [idxs], by simp⟩
theorem Fm.look {w : World} {base M : Nat} {L : List Wk} {k : Nat} {K : List Int} {V : List Value} (h : Fm w base M L k K V) (x : Int) :
  ∃ v, (∀ W, Kept [] w W -> (Instr.lookup 107 (.map (some M)) (.int .i64 x) false).run Tryz.prog W = .ok v W) ∧ w.ownsRow base 3 1 v (idxs L x k).length (ivs (idxs L x k)) ∧ ((x ∉ K ∧ v = .slice none 0 0) ∨ ∃ j : Nat, K[j]? = some x ∧ V[j]? = some v) := by
 by_cases hx : x ∈ K
 ·obtain ⟨j, hj⟩ := List.getElem?_of_mem hx
  have hjl : j < V.length := by rw [h.map.len]; exact (List.getElem?_eq_some_iff.1 hj).1
  obtain ⟨v, hv⟩ : ∃ v, V[j]? = some v := ⟨_, List.getElem?_eq_getElem hjl⟩
  refine ⟨v, fun W hW => ?_, h.rows j x v hj hv, .inr ⟨j, hj, hv⟩⟩
  rcases (h.map.kept hW (by simp)).look Tryz.underlying107 Tryz.zeroInts8 x false with ⟨g1, _⟩ | ⟨j2, v2, g1, g2, g3⟩
  ·exact absurd hx g1
  ·have e : j2 = j := by
    have hn := h.map.nodup
    obtain ⟨l1, e1⟩ := List.getElem?_eq_some_iff.1 g1
    obtain ⟨l2, e2⟩ := List.getElem?_eq_some_iff.1 hj
    rcases Nat.lt_trichotomy j2 j with hh | hh | hh
    ·exact absurd (e1.trans e2.symm) ((List.pairwise_iff_getElem.1 hn) j2 j l1 l2 hh)
    ·exact hh
    ·exact absurd (e2.trans e1.symm) ((List.pairwise_iff_getElem.1 hn) j j2 l2 l1 hh)
   subst e
   rw [hv] at g2
   cases g2
   exact g3
 ·have he : idxs L x k = [] := Classical.byContradiction fun hne => hx (h.full x hne)
  refine ⟨.slice none 0 0, fun W hW => ?_, by rw [he]; exact World.ownsRow_nil _ _ _ _, .inl ⟨hx, rfl⟩⟩
  rcases (h.map.kept hW (by simp)).look Tryz.underlying107 Tryz.zeroInts8 x false with ⟨_, g2⟩ | ⟨j2, v2, g1, _⟩
  ·exact g2
  ·exact absurd (List.mem_of_getElem? g1) hx
theorem Fm.add {w : World} {base M : Nat} {L : List Wk} {k : Nat} {K : List Int} {V : List Value} (h : Fm w base M L k K V) (hk : k <= 1000000) (hbm : base <= w.heap.size) {v : Value} (hv : w.ownsRow base 3 1 v (idxs L (L.getD k wk0).sum k).length (ivs (idxs L (L.getD k wk0).sum k)))
  (hw : ((L.getD k wk0).sum ∉ K ∧ v = .slice none 0 0) ∨ ∃ j : Nat, K[j]? = some (L.getD k wk0).sum ∧ V[j]? = some v) (W : World) (hW : Kept [] w W) (N : Nat) (hN : W.cell? ⟨N, 0, none⟩ = some (.int .i64 k)) :
  ∃ v' W2 W3, (Builtin.append_ #[155, 155] 155 #[v, .slice (some ⟨N, 0, none⟩) 1 1]).run Tryz.prog W = .ok v' W2 ∧ (Instr.mapUpdate 107 (.map (some M)) (.int .i64 (L.getD k wk0).sum) v').run Tryz.prog W2 = .ok () W3 ∧ (∃ K' V', Fm W3 base M L (k + 1) K' V') ∧ Kept v.ownBlock.toList W W2 ∧ Kept [M] W2 W3 := by
 obtain ⟨x, hx⟩ := nm ((L.getD k wk0).sum)
 rw [hx] at hv hw ⊢
 have hF := h.kept hW
 have hvW : W.ownsRow base 3 1 v (idxs L x k).length (ivs (idxs L x k)) := own_same hv (fun g hg => hW.block g (own_blk hv hg).2.1 (by simp))
 obtain ⟨i0, hi, hz0, hz1, hz2⟩ := info_parts Tryz.infoInt8
 have hlk := idxs_len L x k
 obtain ⟨v', W2, hrun, h4, h5, _, h7⟩ := run_append_own_at (P := Tryz.prog) W base 155 155 3 i0 (.int .i64 0) 1 8 Tryz.underlying155 hi hz0 hz1 hz2 rfl (by decide) v _ _ hvW ⟨N, 0, none⟩ 1 1 [.int .i64 k] rfl (by
  intro j u hu
  cases j with
  | zero => simp only [List.getElem?_cons_zero, Option.some.injEq] at hu; subst hu; rw [Addr.add_mid]; exact hN
  | succ j => simp at hu) (by simp [Value.oneCell']) (by unfold maxLen; omega) (by omega) (Nat.le_trans hbm hW.size)
 have hk2 : Kept v.ownBlock.toList W W2 := (Kept.refl _ W).grown h5 (fun g hg _ => by rw [hg]; simp)
 have hMW := hF.map.lt
 have hMv : M ∉ v.ownBlock.toList := by
  intro hm
  have hg : v.ownBlock = some M := by simpa using hm
  obtain ⟨_, _, cur, hc⟩ := own_blk hvW hg
  obtain ⟨es, clock, hb, _⟩ := hF.map
  rw [hb] at hc
  cases hc
 have hF2 : Ik W2 M K V := hF.map.kept hk2 hMv
 obtain ⟨W3, hup, hk3, hs3, hcase⟩ := hF2.put Tryz.underlying107 x v'
 have hv3 : ∀ g, v'.ownBlock = some g -> g ≠ M := fun g hg e => by
  subst e
  obtain ⟨_, _, cur, hc⟩ := own_blk h4 hg
  obtain ⟨es, clock, hb, _⟩ := hF2
  rw [hb] at hc
  cases hc
 have own' : W3.ownsRow base 3 1 v' (idxs L x (k + 1)).length (ivs (idxs L x (k + 1))) := by
  rw [idxs_succ, if_pos hx, List.length_append, ivs_snoc]
  exact own_same h4 (fun g hg => hk3.block g (own_blk h4 hg).2.1 (by simpa using hv3 g hg))
 have hother : ∀ y, y ≠ x -> idxs L y (k + 1) = idxs L y k := fun y hy => by rw [idxs_succ, if_neg (by rw [hx]; exact fun e => hy e.symm)]
 have keep : ∀ (j : Nat) y u, K[j]? = some y -> V[j]? = some u -> y ≠ x -> (∀ g, u.ownBlock = some g -> v.ownBlock ≠ some g) -> W3.ownsRow base 3 1 u (idxs L y (k + 1)).length (ivs (idxs L y (k + 1))) := fun j y u h1 h2 hy ha => by
  have ho := hF.rows j y u h1 h2
  rw [hother y hy]
  refine own_same ho (fun g hg => ?_)
  have hgl := (own_blk ho hg).2.1
  rw [hk3.block g (Nat.lt_of_lt_of_le hgl hk2.size) ?_, hk2.block g hgl ?_]
  ·intro hm
   exact ha g hg (by simpa using hm)
  ·intro hm
   have : g = M := by simpa using hm
   subst this
   obtain ⟨_, _, cur, hc⟩ := own_blk ho hg
   obtain ⟨es, clock, hb, _⟩ := hF.map
   rw [hb] at hc
   cases hc
 refine ⟨v', W2, W3, hrun, hup, ?_, hk2, hk3⟩
 rcases hcase with ⟨hn, hI⟩ | ⟨j0, hj0, hI⟩
 ·rcases hw with ⟨_, hv0⟩ | ⟨j, hj, _⟩
  ·subst hv0
   have hlen := hF.map.len
   have nb : ∀ g, v'.ownBlock = some g -> W.heap.size <= g := fun g hg => by
    rcases h7 with h7 | h7
    ·rw [hg] at h7; simp [Value.ownBlock] at h7
    ·rw [hg] at h7; cases h7; exact Nat.le_refl _
   refine ⟨K ++ [x], V ++ [v'], hI, ?_, ?_, ?_⟩
   ·intro j y u h1 h2
    by_cases hj : j < K.length
    ·rw [List.getElem?_append_left hj] at h1
     rw [List.getElem?_append_left (by omega)] at h2
     refine keep j y u h1 h2 (fun e => hn (by rw [<-e]; exact List.mem_of_getElem? h1)) (fun g _ => by simp [Value.ownBlock])
    ·have hjl := (List.getElem?_eq_some_iff.1 h1).1
     rw [List.length_append, List.length_singleton] at hjl
     have e : j = K.length := by omega
     subst e
     rw [List.getElem?_append_right (Nat.le_refl _), Nat.sub_self] at h1
     rw [List.getElem?_append_right (by omega), hlen, Nat.sub_self] at h2
     simp only [List.getElem?_cons_zero, Option.some.injEq] at h1 h2
     subst h1; subst h2
     exact own'
   ·intro y hy
    by_cases e : y = x
    ·simp [e]
    ·rw [hother y e] at hy
     simp [hF.full y hy]
   ·intro i j u u' g hij h1 h2 hg
    have gl : ∀ (q : Nat) z, V[q]? = some z -> ∀ g, z.ownBlock = some g -> g < W.heap.size := fun q z hz g hg => by
     have hql : q < K.length := by rw [<-hlen]; exact (List.getElem?_eq_some_iff.1 hz).1
     exact (own_blk (hF.rows q K[q] z (List.getElem?_eq_getElem hql) hz) hg).2.1
    have cs : ∀ (q : Nat) z, (V ++ [v'])[q]? = some z -> V[q]? = some z ∨ (q = V.length ∧ z = v') := fun q z hz => by
     by_cases hq : q < V.length
     ·rw [List.getElem?_append_left hq] at hz; exact .inl hz
     ·have hql := (List.getElem?_eq_some_iff.1 hz).1
      rw [List.length_append, List.length_singleton] at hql
      have e : q = V.length := by omega
      subst e
      rw [List.getElem?_append_right (Nat.le_refl _), Nat.sub_self] at hz
      simp only [List.getElem?_cons_zero, Option.some.injEq] at hz
      exact .inr ⟨rfl, hz.symm⟩
    rcases cs i u h1 with p1 | ⟨rfl, rfl⟩
    ·rcases cs j u' h2 with p2 | ⟨rfl, rfl⟩
     ·exact hF.apart i j u u' g hij p1 p2 hg
     ·intro e
      have := gl i u p1 g hg
      have := nb g e
      omega
    ·rcases cs j u' h2 with p2 | ⟨rfl, rfl⟩
     ·intro e
      have := gl j u' p2 g e
      have := nb g hg
      omega
     ·exact absurd rfl hij
  ·exact absurd (List.mem_of_getElem? hj) hn
 ·rcases hw with ⟨hn, _⟩ | ⟨j, hj, hvj⟩
  ·exact absurd (List.mem_of_getElem? hj0) hn
  ·have e : j0 = j := by
    have hn := hF.map.nodup
    obtain ⟨l1, e1⟩ := List.getElem?_eq_some_iff.1 hj0
    obtain ⟨l2, e2⟩ := List.getElem?_eq_some_iff.1 hj
    rcases Nat.lt_trichotomy j0 j with hh | hh | hh
    ·exact absurd (e1.trans e2.symm) ((List.pairwise_iff_getElem.1 hn) j0 j l1 l2 hh)
    ·exact hh
    ·exact absurd (e2.trans e1.symm) ((List.pairwise_iff_getElem.1 hn) j j0 l2 l1 hh)
   subst e
   have hjV : j0 < V.length := (List.getElem?_eq_some_iff.1 hvj).1
   have loc : ∀ g, v'.ownBlock = some g -> v.ownBlock = some g ∨ W.heap.size <= g := fun g hg => by
    rcases h7 with h7 | h7
    ·exact .inl (by rw [<-h7]; exact hg)
    ·rw [hg] at h7; cases h7; exact .inr (Nat.le_refl _)
   have hlen := hF.map.len
   have gl : ∀ (q : Nat) z, V[q]? = some z -> ∀ g, z.ownBlock = some g -> g < W.heap.size := fun q z hz g hg => by
    have hql : q < K.length := by rw [<-hlen]; exact (List.getElem?_eq_some_iff.1 hz).1
    exact (own_blk (hF.rows q K[q] z (List.getElem?_eq_getElem hql) hz) hg).2.1
   refine ⟨K, V.set j0 v', hI, ?_, ?_, ?_⟩
   ·intro q y u h1 h2
    by_cases hq : j0 = q
    ·subst hq
     rw [List.getElem?_set_self hjV] at h2
     cases h2
     rw [hj0] at h1
     cases h1
     exact own'
    ·rw [List.getElem?_set_ne hq] at h2
     refine keep q y u h1 h2 (fun e => ?_) (fun g hg => hF.apart q j0 u v g (fun e => hq e.symm) h2 hvj hg)
     subst e
     obtain ⟨l1, e1⟩ := List.getElem?_eq_some_iff.1 h1
     obtain ⟨l2, e2⟩ := List.getElem?_eq_some_iff.1 hj0
     have hn := hF.map.nodup
     rcases Nat.lt_trichotomy q j0 with hh | hh | hh
     ·exact absurd (e1.trans e2.symm) ((List.pairwise_iff_getElem.1 hn) q j0 l1 l2 hh)
     ·exact hq hh.symm
     ·exact absurd (e2.trans e1.symm) ((List.pairwise_iff_getElem.1 hn) j0 q l2 l1 hh)
   ·intro y hy
    by_cases e : y = x
    ·rw [e]; exact List.mem_of_getElem? hj0
    ·rw [hother y e] at hy
     exact hF.full y hy
   ·intro i q u u' g hiq h1 h2 hg
    by_cases hi : j0 = i
    ·subst hi
     rw [List.getElem?_set_self hjV] at h1
     cases h1
     rw [List.getElem?_set_ne hiq] at h2
     intro e
     rcases loc g hg with h | h
     ·exact hF.apart q j0 u' v g (fun e => hiq e.symm) h2 hvj e h
     ·have := gl q u' h2 g e; omega
    ·rw [List.getElem?_set_ne hi] at h1
     by_cases hq : j0 = q
     ·subst hq
      rw [List.getElem?_set_self hjV] at h2
      cases h2
      intro e
      rcases loc g e with h | h
      ·exact hF.apart i j0 u v g (fun e => hi e.symm) h1 hvj hg h
      ·have := gl i u h1 g hg; omega
     ·rw [List.getElem?_set_ne hq] at h2
      exact hF.apart i q u u' g hiq h1 h2 hg
end

end Go.Proofs.YtmklodligplbaabGreat
