import Derived.Test.YteckiednnaianaaGreatIbp
import Derived.Test.YteckiednnaianaaGreatRfep
import Derived.Test.YteckiednnaianaaGreatIep
import Derived.Test.YteckiednnaianaaGreatRerp
namespace Go.Proofs.YteckiednnaianaaGreat
section
open Go.RowKit Dsk
set_option linter.unusedVariables false
set_option linter.unusedSimpArgs false
def Txs (w : World) (ao : Option Addr) (l : List By) : Prop := ∀ i, i < l.length → ∃ b, ao = some ⟨b, 0, none⟩ ∧ w.cell? ⟨b, i, none⟩ = some (encStr (l.getD i []))
theorem Txs.of {w : World} {B : Nat} {ao : Option Addr} {n c : Nat} {l : List By} (h : w.ownsRow B 9 1 (.slice ao n c) n (l.map encStr)) : Txs w ao l := by
 intro i hi
 rcases h.2 with ⟨_, e⟩ | ⟨g, cap, cur, e, _⟩
 ·have := h.1; simp at this; omega
 ·injection e with e _ _
  subst e
  refine ⟨g, rfl, ?_⟩
  have := h.cells (g := g) rfl i (encStr (l.getD i [])) (by simp [hi])
  rwa [add0] at this
set_option maxHeartbeats 800000 in
set_option maxRecDepth 100000 in
theorem names_yes (a1 a2 : Option Addr) (n c1 c2 : Nat) (l : List By) (w : World) (hx : l.length = n) (hm : n ≤ 4611686018427387904) (h1 : Txs w a1 l) (h2 : Txs w a2 l) :
  Calls Tryz.prog 48 #[.slice a1 n c1, .slice a2 n c2] w fun e w' => e = .returned (.bool true) ∧ ∃ k, w' = w.drewN k := by
 have HX := hide hx
 clear hx
 go_enter Tryz.func48, Tryz.ntmps48
 go_wp2
 go_loopw [5] (fun i wr => ∃ k : Nat, k ≤ n ∧ i = .int .i64 k ∧ ∃ j, wr = w.drewN j) (fun i wr => n - (intOf i).toNat)
 case atStart => exact ⟨0, Nat.zero_le _, rfl, 0, rfl⟩
 case round =>
  obtain ⟨k, hk, rfl, j, hwr⟩ := hrel
  subst hwr
  by_cases hlt : k < n
  ·obtain ⟨b1, rfl, e1⟩ := h1 k (by rw [HX.out]; exact hlt)
   obtain ⟨b2, rfl, e2⟩ := h2 k (by rw [HX.out]; exact hlt)
   generalize l.getD k [] = x at e1 e2
   clear h1 h2
   go_wp2
   go_quiet (fail)
   go_wp2
   go_roundw
   case rel => exact ⟨k + 1, by omega, by go_num, _, rfl⟩
   case measure => simp [intOf]; omega
  ·clear h1 h2
   go_wp2
   go_ret
   exact ⟨rfl, j, rfl⟩
end

section
open Go.RowKit Dsk
set_option linter.unusedVariables false
set_option linter.unusedSimpArgs false
section
variable {X : Nat → Prop} {w : World} {P p q D : Nat} {bo : Option Nat} {R : List UInt8} {S : Ds} {N : Nat} {T : Ds} {M : Nat}
theorem list_p1 (h : Pq X w P p q D bo R S N T M) (hN : N ≤ 268435456) (n : By) (hn : n.length ≤ 4611686018427387904) : Calls Tryz.prog 49 #[.pointer (some ⟨p, 0, none⟩), encStr n] w fun e w' => ∃ v, e = .returned v ∧ Tl w w' v (S.list n) := by
 obtain ⟨A, o, A2, o2, h1, h2, h3, h4, h5, h6⟩ := h.tw
 refine (list_ok h1 h5 hN n hn).mono ?_
 rintro e w' ⟨v, rfl, g1, g2, g3⟩
 exact ⟨v, rfl, g1, g2, g3⟩
theorem list_p2 (h : Pq X w P p q D bo R S N T M) (hM : M ≤ 268435456) (n : By) (hn : n.length ≤ 4611686018427387904) : Calls Tryz.prog 50 #[.pointer (some ⟨q, 0, none⟩), encStr n] w fun e w' => ∃ v, e = .returned v ∧ Tl w w' v (T.list n) := by
 have hb := h.tw.bd2
 obtain ⟨A', o', h1, _, h2⟩ := h.two
 obtain ⟨hwf, nv, bv, tv, sv, hx⟩ := h1
 exact rlist_ok hx hwf (by have := hb.shown hwf; omega) n hn
theorem list_small {S : Ds} {N : Nat} (hb : S.Bd N) (hw : S.Wf) (n : By) : (S.list n).length ≤ N := by
 have h1 := hb.shown hw
 unfold Ds.list
 split
 ·refine Nat.le_trans (List.length_filter_le _ _) ?_
  simpa [Nm.keys] using h1
 ·exact Nat.zero_le _
theorem readBytes_small {S : Ds} {N : Nat} (hb : S.Bd N) (hw : S.Wf) (n : By) (a m : Int) : (S.readBytes n a m).length ≤ N := by
 unfold Ds.readBytes
 split
 ·rename_i h
  have h0 : (S.find n).1 = 0 := Classical.byContradiction fun h0 => by simp [Ds.readOk, h0] at h
  obtain ⟨i, hp, hi, hti, hlv, hon, hnx⟩ := find0 hw h0
  have := hb.len hw hnx
  rw [List.length_take, List.length_drop]
  omega
 ·exact Nat.zero_le _
theorem tl_kept {w a b : World} {v : Value} {l : List By} (h : Tl w a v l) (hk : Kept [] a b) : Tl w b v l := ⟨own_keeps h.row (Keep.ofNone (F := fun _ => False) hk) (fun _ _ h => h), h.new, h.keep.trans hk (by simp)⟩
end
set_option maxHeartbeats 3200000 in
set_option maxRecDepth 100000 in
theorem ot_read {X : Nat → Prop} {w : World} {P p q D : Nat} {bo : Option Nat} {R : List UInt8} {S : Ds} {N : Nat} (h : Pq X w P p q D bo R S N S N) (name to : By) (at_ n : Int) (da : Option Addr) (dn dc : Nat) (ds : By) (po pf pt : Int) (pa : Option Addr) (pn pc : Nat) (ps : List Int) (hi : StpIn w ⟨9, name, to, at_, n, da, dn, dc, ds, po, pf, pt, pa, pn, pc, ps⟩) (hN : N + dn + 5 ≤ 268435456) :
  Calls Tryz.prog 63 #[.pointer (some ⟨P, 0, none⟩), .agg #[.int .i64 9, encStr name, encStr to, .int .i64 at_, .int .i64 n, .slice da dn dc, .int .i64 po, .int .i64 pf, .int .i64 pt, .slice pa pn pc]] w fun e w' => e = .returned (.bool true) ∧ Pq X w' P p q D bo R (S.read name at_ n) (N + 1) (S.read name at_ n) (N + 1) ∧ Keep (fun b => ¬ X b) w w' := by
 have hnm : name.length ≤ 4611686018427387904 := hi.nm
 have haw : (Lit.int .i64 at_).wf = true := hi.wa
 have hnw : (Lit.int .i64 n).wf = true := hi.wn
 have hpw : (Lit.int .i64 po).wf = true ∧ (Lit.int .i64 pf).wf = true ∧ (Lit.int .i64 pt).wf = true := ⟨hi.wo, hi.wf, hi.wt⟩
 obtain ⟨w1, hw1⟩ : ∃ w1, w1 = w.alloc (.cells #[.int .i64 9, encStr name, encStr to, .int .i64 at_, .int .i64 n, .slice da dn dc, .int .i64 po, .int .i64 pf, .int .i64 pt, .slice pa pn pc] 52) := ⟨_, rfl⟩
 obtain ⟨h1, hR, hk1⟩ := h.box [.int .i64 9, encStr name, encStr to, .int .i64 at_, .int .i64 n, .slice da dn dc, .int .i64 po, .int .i64 pf, .int .i64 pt, .slice pa pn pc] 52 hw1
 have i0 : w1.cell? ⟨w.heap.size, 0, none⟩ = some (.int .i64 9) := hR.bx 0 _ rfl
 have HK : Hid (Keep (fun b => ¬ X b) w w1) := hide (Keep.ofNone hk1)
 clear h hk1 hi
 go_enter Tryz.func63, Tryz.ntmps63
 go_upto_region 1 with (fail)
 rw [← hw1]
 clear hw1
 generalize w.heap.size = bx at *
 have HQ := hide h1
 have HR := hide hR
 clear h1 hR
 go_upto_region 3 with (fail)
 clear i0
 have HQa0 : Hid (Pq (fun b => X b ∨ b = bx) w1.drew P p q D bo R S N S N) := hide (HQ.out.kept ((Kept.refl [] w1).drew))
 have HKa0 : Hid (Keep (fun b => ¬ X b) w w1.drew) := hide (HK.out.kept ((Kept.refl [] w1).drew))
 clear HQ HK
 have HSM : Hid ((S.readBytes name at_ n).length ≤ N) := hide (readBytes_small HQa0.out.tw.bd1 HQa0.out.tw.wf1 name at_ n)
 refine wp_region_held_drew (S := (Rd2 P p q D bx [.int .i64 9, encStr name, encStr to, .int .i64 at_, .int .i64 n, .slice da dn dc, .int .i64 po, .int .i64 pf, .int .i64 pt, .slice pa pn pc])) (by kernel_rfl) (HR.out.kept ((Kept.refl [] w1).drew)) (fun hv0 => ?_)
 generalize World.drew w1 = v0 at hv0 HQa0 HKa0 ⊢
 refine wpAnyH_take (i := 0) (v := .pointer (some ⟨P, 0, none⟩)) rfl (by kernel_rfl) (by kernel_rfl) (by kernel_rfl) (fun _ _ _ h => h) (Or.inl ⟨by rfl, fun w hSw => by go_simp⟩) hv0 ?_
 try simp only [z1, z2, z3, z4, z5, z6, z7, z8]
 refine wpAnyH_take (i := 1) (v := .pointer (some ⟨P, 0, none⟩)) rfl (by kernel_rfl) (by kernel_rfl) (by kernel_rfl) (fun _ _ _ h => h) (Or.inl ⟨by rfl, fun w hSw => by go_simp⟩) hv0 ?_
 try simp only [z1, z2, z3, z4, z5, z6, z7, z8]
 refine wpAnyH_take (i := 2) (v := .pointer (some ⟨P, 0, none⟩)) rfl (by kernel_rfl) (by kernel_rfl) (by kernel_rfl) (fun _ _ _ h => h) (Or.inl ⟨by rfl, fun w hSw => by go_simp⟩) hv0 ?_
 try simp only [z1, z2, z3, z4, z5, z6, z7, z8]
 refine wpAnyH_take (i := 3) (v := .pointer (some ⟨p, 0, none⟩)) rfl (by kernel_rfl) (by kernel_rfl) (by kernel_rfl) (fun _ _ _ h => h) (Or.inl ⟨by rfl, fun w hSw => by have c0 := hSw.p0; go_simp⟩) hv0 ?_
 try simp only [z1, z2, z3, z4, z5, z6, z7, z8]
 refine wpAnyH_take (i := 4) (v := .pointer (some ⟨bx, 1, none⟩)) rfl (by kernel_rfl) (by kernel_rfl) (by kernel_rfl) (fun _ _ _ h => h) (Or.inl ⟨by rfl, fun w hSw => by go_simp⟩) hv0 ?_
 try simp only [z1, z2, z3, z4, z5, z6, z7, z8]
 refine wpAnyH_take (i := 5) (v := encStr name) rfl (by kernel_rfl) (by kernel_rfl) (by kernel_rfl) (fun _ _ _ h => h) (Or.inl ⟨by rfl, fun w hSw => by have c0 := hSw.bx 1 _ rfl; go_simp⟩) hv0 ?_
 try simp only [z1, z2, z3, z4, z5, z6, z7, z8]
 refine wpAnyH_take (i := 6) (v := .pointer (some ⟨bx, 3, none⟩)) rfl (by kernel_rfl) (by kernel_rfl) (by kernel_rfl) (fun _ _ _ h => h) (Or.inl ⟨by rfl, fun w hSw => by go_simp⟩) hv0 ?_
 try simp only [z1, z2, z3, z4, z5, z6, z7, z8]
 refine wpAnyH_take (i := 7) (v := .int .i64 at_) rfl (by kernel_rfl) (by kernel_rfl) (by kernel_rfl) (fun _ _ _ h => h) (Or.inl ⟨by rfl, fun w hSw => by have c0 := hSw.bx 3 _ rfl; go_simp⟩) hv0 ?_
 try simp only [z1, z2, z3, z4, z5, z6, z7, z8]
 refine wpAnyH_take (i := 8) (v := .pointer (some ⟨bx, 4, none⟩)) rfl (by kernel_rfl) (by kernel_rfl) (by kernel_rfl) (fun _ _ _ h => h) (Or.inl ⟨by rfl, fun w hSw => by go_simp⟩) hv0 ?_
 try simp only [z1, z2, z3, z4, z5, z6, z7, z8]
 refine wpAnyH_take (i := 9) (v := .int .i64 n) rfl (by kernel_rfl) (by kernel_rfl) (by kernel_rfl) (fun _ _ _ h => h) (Or.inl ⟨by rfl, fun w hSw => by have c0 := hSw.bx 4 _ rfl; go_simp⟩) hv0 ?_
 try simp only [z1, z2, z3, z4, z5, z6, z7, z8]
 refine wpAnyH_ready (rs := [10]) (by kernel_rfl) (by simp) (AllReadyH.cons (i := 10) rfl (fun K hK => ?_) AllReadyH.nil)
 rw [if_pos (by rfl)]
 go_simp
 refine (read_p1 HQa0.out (by omega) name hnm at_ n).mono ?_
 rintro e v1 ⟨v, rfl, hq, hk, hO⟩
 have HQa1 := hide hq
 have HKa1 : Hid (Keep (fun b => ¬ X b) w v1) := hide (HKa0.out.trans hk (fun b hb _ hx => hb (.inl (.inl hx))))
 obtain ⟨ro, rc, hv, hrl, hrm, _, _⟩ := hO.shape
 have HO1 := hide hO
 clear hq hO HQa0 HKa0
 refine hK.out _ _ (hv0.mv hk (.inr rfl)) (fun hv1 => ?_)
 clear hK K
 try simp only [z1, z2, z3, z4, z5, z6, z7, z8]
 refine wpAnyH_take (i := 11) (v := .tuple #[v, .int .i64 (S.readOk name at_ n)]) rfl (by kernel_rfl) (by kernel_rfl) (by kernel_rfl) (fun _ _ _ h => h) (Or.inl ⟨by rfl, fun w hSw => by go_simp⟩) hv1 ?_
 try simp only [z1, z2, z3, z4, z5, z6, z7, z8]
 refine wpAnyH_take (i := 12) (v := v) rfl (by kernel_rfl) (by kernel_rfl) (by kernel_rfl) (fun _ _ _ h => h) (Or.inl ⟨by rfl, fun w hSw => by go_simp⟩) hv1 ?_
 try simp only [z1, z2, z3, z4, z5, z6, z7, z8]
 refine wpAnyH_take (i := 13) (v := .int .i64 (S.readOk name at_ n)) rfl (by kernel_rfl) (by kernel_rfl) (by kernel_rfl) (fun _ _ _ h => h) (Or.inl ⟨by rfl, fun w hSw => by go_simp⟩) hv1 ?_
 try simp only [z1, z2, z3, z4, z5, z6, z7, z8]
 refine wpAnyH_take (i := 14) (v := v) rfl (by kernel_rfl) (by kernel_rfl) (by kernel_rfl) (fun _ _ _ h => h) (Or.inl ⟨by rfl, fun w hSw => by go_simp⟩) hv1 ?_
 try simp only [z1, z2, z3, z4, z5, z6, z7, z8]
 refine wpAnyH_take (i := 15) (v := .int .i64 (S.readOk name at_ n)) rfl (by kernel_rfl) (by kernel_rfl) (by kernel_rfl) (fun _ _ _ h => h) (Or.inl ⟨by rfl, fun w hSw => by go_simp⟩) hv1 ?_
 try simp only [z1, z2, z3, z4, z5, z6, z7, z8]
 refine wpAnyH_done (by kernel_rfl) ?_ _
 go_upto_region 4 with (fail)
 have HQb0 : Hid (Pq (fun b => (X b ∨ b = bx) ∨ v.ownBlock = some b) v1.drew P p q D bo R (S.read name at_ n) (N + 1) S N) := hide (HQa1.out.kept ((Kept.refl [] v1).drew))
 have HKb0 : Hid (Keep (fun b => ¬ X b) w v1.drew) := hide (HKa1.out.kept ((Kept.refl [] v1).drew))
 clear HQa1 HKa1
 have HO2 : Hid (OwnB v1.drew v (S.readBytes name at_ n).length (S.readBytes name at_ n)) := hide (HO1.out.kept ((Kept.refl [] v1).drew))
 clear HO1
 refine wp_region_held_drew (S := (Rd2 P p q D bx [.int .i64 9, encStr name, encStr to, .int .i64 at_, .int .i64 n, .slice da dn dc, .int .i64 po, .int .i64 pf, .int .i64 pt, .slice pa pn pc])) (by kernel_rfl) (hv1.kept ((Kept.refl [] v1).drew)) (fun hu0 => ?_)
 generalize World.drew v1 = u0 at hu0 HQb0 HKb0 HO2 ⊢
 refine wpAnyH_take (i := 0) (v := .pointer (some ⟨P, 0, none⟩)) rfl (by kernel_rfl) (by kernel_rfl) (by kernel_rfl) (fun _ _ _ h => h) (Or.inl ⟨by rfl, fun w hSw => by go_simp⟩) hu0 ?_
 try simp only [z1, z2, z3, z4, z5, z6, z7, z8]
 refine wpAnyH_take (i := 1) (v := .pointer (some ⟨P, 0, none⟩)) rfl (by kernel_rfl) (by kernel_rfl) (by kernel_rfl) (fun _ _ _ h => h) (Or.inl ⟨by rfl, fun w hSw => by go_simp⟩) hu0 ?_
 try simp only [z1, z2, z3, z4, z5, z6, z7, z8]
 refine wpAnyH_take (i := 2) (v := .pointer (some ⟨P, 1, none⟩)) rfl (by kernel_rfl) (by kernel_rfl) (by kernel_rfl) (fun _ _ _ h => h) (Or.inl ⟨by rfl, fun w hSw => by go_simp⟩) hu0 ?_
 try simp only [z1, z2, z3, z4, z5, z6, z7, z8]
 refine wpAnyH_take (i := 3) (v := .pointer (some ⟨q, 0, none⟩)) rfl (by kernel_rfl) (by kernel_rfl) (by kernel_rfl) (fun _ _ _ h => h) (Or.inl ⟨by rfl, fun w hSw => by have c0 := hSw.p1; go_simp⟩) hu0 ?_
 try simp only [z1, z2, z3, z4, z5, z6, z7, z8]
 refine wpAnyH_take (i := 4) (v := .pointer (some ⟨bx, 1, none⟩)) rfl (by kernel_rfl) (by kernel_rfl) (by kernel_rfl) (fun _ _ _ h => h) (Or.inl ⟨by rfl, fun w hSw => by go_simp⟩) hu0 ?_
 try simp only [z1, z2, z3, z4, z5, z6, z7, z8]
 refine wpAnyH_take (i := 5) (v := encStr name) rfl (by kernel_rfl) (by kernel_rfl) (by kernel_rfl) (fun _ _ _ h => h) (Or.inl ⟨by rfl, fun w hSw => by have c0 := hSw.bx 1 _ rfl; go_simp⟩) hu0 ?_
 try simp only [z1, z2, z3, z4, z5, z6, z7, z8]
 refine wpAnyH_take (i := 6) (v := .pointer (some ⟨bx, 3, none⟩)) rfl (by kernel_rfl) (by kernel_rfl) (by kernel_rfl) (fun _ _ _ h => h) (Or.inl ⟨by rfl, fun w hSw => by go_simp⟩) hu0 ?_
 try simp only [z1, z2, z3, z4, z5, z6, z7, z8]
 refine wpAnyH_take (i := 7) (v := .int .i64 at_) rfl (by kernel_rfl) (by kernel_rfl) (by kernel_rfl) (fun _ _ _ h => h) (Or.inl ⟨by rfl, fun w hSw => by have c0 := hSw.bx 3 _ rfl; go_simp⟩) hu0 ?_
 try simp only [z1, z2, z3, z4, z5, z6, z7, z8]
 refine wpAnyH_take (i := 8) (v := .pointer (some ⟨bx, 4, none⟩)) rfl (by kernel_rfl) (by kernel_rfl) (by kernel_rfl) (fun _ _ _ h => h) (Or.inl ⟨by rfl, fun w hSw => by go_simp⟩) hu0 ?_
 try simp only [z1, z2, z3, z4, z5, z6, z7, z8]
 refine wpAnyH_take (i := 9) (v := .int .i64 n) rfl (by kernel_rfl) (by kernel_rfl) (by kernel_rfl) (fun _ _ _ h => h) (Or.inl ⟨by rfl, fun w hSw => by have c0 := hSw.bx 4 _ rfl; go_simp⟩) hu0 ?_
 try simp only [z1, z2, z3, z4, z5, z6, z7, z8]
 refine wpAnyH_ready (rs := [10]) (by kernel_rfl) (by simp) (AllReadyH.cons (i := 10) rfl (fun K hK => ?_) AllReadyH.nil)
 rw [if_pos (by rfl)]
 go_simp
 refine (read_p2 HQb0.out (by omega) name hnm at_ n haw hnw).mono ?_
 rintro e u1 ⟨v', rfl, hq, hk, hO, hnew⟩
 have HQb1 := hide hq
 have HKb1 : Hid (Keep (fun b => ¬ X b) w u1) := hide (HKb0.out.trans hk (fun b hb _ hx => hb (.inl (.inl (.inl hx)))))
 have HO3 : Hid (OwnB u1 v (S.readBytes name at_ n).length (S.readBytes name at_ n)) := hide (HO2.out.keep hk (fun g hg hm => hm (.inl (.inr hg))))
 obtain ⟨so, sc, hv', hsl, hsm, _, _⟩ := hO.shape
 have HO4 := hide hO
 clear hq hO hnew HQb0 HKb0 HO2
 refine hK.out _ _ (hu0.mv hk (.inl (.inr rfl))) (fun hu1 => ?_)
 clear hK K
 try simp only [z1, z2, z3, z4, z5, z6, z7, z8]
 refine wpAnyH_take (i := 11) (v := .tuple #[v', .int .i64 (S.readOk name at_ n)]) rfl (by kernel_rfl) (by kernel_rfl) (by kernel_rfl) (fun _ _ _ h => h) (Or.inl ⟨by rfl, fun w hSw => by go_simp⟩) hu1 ?_
 try simp only [z1, z2, z3, z4, z5, z6, z7, z8]
 refine wpAnyH_take (i := 12) (v := v') rfl (by kernel_rfl) (by kernel_rfl) (by kernel_rfl) (fun _ _ _ h => h) (Or.inl ⟨by rfl, fun w hSw => by go_simp⟩) hu1 ?_
 try simp only [z1, z2, z3, z4, z5, z6, z7, z8]
 refine wpAnyH_take (i := 13) (v := .int .i64 (S.readOk name at_ n)) rfl (by kernel_rfl) (by kernel_rfl) (by kernel_rfl) (fun _ _ _ h => h) (Or.inl ⟨by rfl, fun w hSw => by go_simp⟩) hu1 ?_
 try simp only [z1, z2, z3, z4, z5, z6, z7, z8]
 refine wpAnyH_take (i := 14) (v := v') rfl (by kernel_rfl) (by kernel_rfl) (by kernel_rfl) (fun _ _ _ h => h) (Or.inl ⟨by rfl, fun w hSw => by go_simp⟩) hu1 ?_
 try simp only [z1, z2, z3, z4, z5, z6, z7, z8]
 refine wpAnyH_take (i := 15) (v := .int .i64 (S.readOk name at_ n)) rfl (by kernel_rfl) (by kernel_rfl) (by kernel_rfl) (fun _ _ _ h => h) (Or.inl ⟨by rfl, fun w hSw => by go_simp⟩) hu1 ?_
 try simp only [z1, z2, z3, z4, z5, z6, z7, z8]
 refine wpAnyH_done (by kernel_rfl) ?_ _
 subst hv hv'
 have hsmall := HSM.out
 clear HSM
 generalize hL : (S.readBytes name at_ n).length = L at *
 have hbs := bytes_yes ro so L rc sc (S.readBytes name at_ n) u1 hL (by omega) HO3.out.sl HO4.out.sl
 clear HO3 HO4 hv1 hu1
 generalize S.readOk name at_ n = E at *
 go_wp2_with (first
  | (go_at_call 8; refine (num_ok _ _).mono ?_; rintro e w' ⟨rfl, hw⟩; obtain rfl := hw.symm)
  | (go_at_call 22; refine hbs.mono ?_; rintro e w' ⟨rfl, kk, hw⟩; have HQ5 : Hid (Pq (fun b => (X b ∨ b = bx) ∨ Value.ownBlock (.slice ro L rc) = some b) w' P p q D bo R (S.read name at_ n) (N + 1) (S.read name at_ n) (N + 1) ∧ Keep (fun b => ¬ X b) w w') := hide (by rw [hw]; exact ⟨HQb1.out.kept ((Kept.refl [] _).drewN kk), HKb1.out.drewN kk⟩); clear hw hbs HQb1 HKb1))
 go_ret
 exact ⟨rfl, HQ5.out.1.less (fun _ h => .inl (.inl h)), HQ5.out.2⟩
set_option maxHeartbeats 3200000 in
set_option maxRecDepth 100000 in
theorem ot_plan {X : Nat → Prop} {w : World} {P p q D : Nat} {bo : Option Nat} {R : List UInt8} {S : Ds} {N : Nat} (h : Pq X w P p q D bo R S N S N) (name to : By) (at_ n : Int) (da : Option Addr) (dn dc : Nat) (ds : By) (po pf pt : Int) (pa : Option Addr) (pn pc : Nat) (ps : List Int) (hi : StpIn w ⟨11, name, to, at_, n, da, dn, dc, ds, po, pf, pt, pa, pn, pc, ps⟩) (hN : N + dn + 5 ≤ 268435456) :
  Calls Tryz.prog 63 #[.pointer (some ⟨P, 0, none⟩), .agg #[.int .i64 11, encStr name, encStr to, .int .i64 at_, .int .i64 n, .slice da dn dc, .int .i64 po, .int .i64 pf, .int .i64 pt, .slice pa pn pc]] w fun e w' => e = .returned (.bool true) ∧ Pq X w' P p q D bo R (S.setPlan po pf pt) N (S.setPlan po pf pt) N ∧ Keep (fun b => ¬ X b) w w' := by
 have hnm : name.length ≤ 4611686018427387904 := hi.nm
 have haw : (Lit.int .i64 at_).wf = true := hi.wa
 have hnw : (Lit.int .i64 n).wf = true := hi.wn
 have hpw : (Lit.int .i64 po).wf = true ∧ (Lit.int .i64 pf).wf = true ∧ (Lit.int .i64 pt).wf = true := ⟨hi.wo, hi.wf, hi.wt⟩
 obtain ⟨w1, hw1⟩ : ∃ w1, w1 = w.alloc (.cells #[.int .i64 11, encStr name, encStr to, .int .i64 at_, .int .i64 n, .slice da dn dc, .int .i64 po, .int .i64 pf, .int .i64 pt, .slice pa pn pc] 52) := ⟨_, rfl⟩
 obtain ⟨h1, hR, hk1⟩ := h.box [.int .i64 11, encStr name, encStr to, .int .i64 at_, .int .i64 n, .slice da dn dc, .int .i64 po, .int .i64 pf, .int .i64 pt, .slice pa pn pc] 52 hw1
 have i0 : w1.cell? ⟨w.heap.size, 0, none⟩ = some (.int .i64 11) := hR.bx 0 _ rfl
 have HK : Hid (Keep (fun b => ¬ X b) w w1) := hide (Keep.ofNone hk1)
 clear h hk1 hi
 go_enter Tryz.func63, Tryz.ntmps63
 go_upto_region 1 with (fail)
 rw [← hw1]
 clear hw1
 generalize w.heap.size = bx at *
 have HQ := hide h1
 have HR := hide hR
 clear h1 hR
 go_upto_region 11 with (fail)
 clear i0
 have HQa0 : Hid (Pq (fun b => X b ∨ b = bx) w1.drew P p q D bo R S N S N) := hide (HQ.out.kept ((Kept.refl [] w1).drew))
 have HKa0 : Hid (Keep (fun b => ¬ X b) w w1.drew) := hide (HK.out.kept ((Kept.refl [] w1).drew))
 clear HQ HK
 refine wp_region_held_drew (S := (Rd2 P p q D bx [.int .i64 11, encStr name, encStr to, .int .i64 at_, .int .i64 n, .slice da dn dc, .int .i64 po, .int .i64 pf, .int .i64 pt, .slice pa pn pc])) (by kernel_rfl) (HR.out.kept ((Kept.refl [] w1).drew)) (fun hv0 => ?_)
 generalize World.drew w1 = v0 at hv0 HQa0 HKa0 ⊢
 refine wpAnyH_take (i := 0) (v := .pointer (some ⟨P, 0, none⟩)) rfl (by kernel_rfl) (by kernel_rfl) (by kernel_rfl) (fun _ _ _ h => h) (Or.inl ⟨by rfl, fun w hSw => by go_simp⟩) hv0 ?_
 try simp only [z1, z2, z3, z4, z5, z6, z7, z8]
 refine wpAnyH_take (i := 1) (v := .pointer (some ⟨P, 0, none⟩)) rfl (by kernel_rfl) (by kernel_rfl) (by kernel_rfl) (fun _ _ _ h => h) (Or.inl ⟨by rfl, fun w hSw => by go_simp⟩) hv0 ?_
 try simp only [z1, z2, z3, z4, z5, z6, z7, z8]
 refine wpAnyH_take (i := 2) (v := .pointer (some ⟨P, 0, none⟩)) rfl (by kernel_rfl) (by kernel_rfl) (by kernel_rfl) (fun _ _ _ h => h) (Or.inl ⟨by rfl, fun w hSw => by go_simp⟩) hv0 ?_
 try simp only [z1, z2, z3, z4, z5, z6, z7, z8]
 refine wpAnyH_take (i := 3) (v := .pointer (some ⟨p, 0, none⟩)) rfl (by kernel_rfl) (by kernel_rfl) (by kernel_rfl) (fun _ _ _ h => h) (Or.inl ⟨by rfl, fun w hSw => by have c0 := hSw.p0; go_simp⟩) hv0 ?_
 try simp only [z1, z2, z3, z4, z5, z6, z7, z8]
 refine wpAnyH_take (i := 4) (v := .pointer (some ⟨bx, 6, none⟩)) rfl (by kernel_rfl) (by kernel_rfl) (by kernel_rfl) (fun _ _ _ h => h) (Or.inl ⟨by rfl, fun w hSw => by go_simp⟩) hv0 ?_
 try simp only [z1, z2, z3, z4, z5, z6, z7, z8]
 refine wpAnyH_take (i := 5) (v := .agg #[.int .i64 po, .int .i64 pf, .int .i64 pt]) rfl (by kernel_rfl) (by kernel_rfl) (by kernel_rfl) (fun _ _ _ h => h) (Or.inl ⟨by rfl, fun w hSw => by have c0 := hSw.bx 6 _ rfl; have c1 := hSw.bx 7 _ rfl; have c2 := hSw.bx 8 _ rfl; go_simp⟩) hv0 ?_
 try simp only [z1, z2, z3, z4, z5, z6, z7, z8]
 refine wpAnyH_ready (rs := [6]) (by kernel_rfl) (by simp) (AllReadyH.cons (i := 6) rfl (fun K hK => ?_) AllReadyH.nil)
 rw [if_pos (by rfl)]
 go_simp
 refine (plan_p1 HQa0.out po pf pt hpw).mono ?_
 rintro e v1 ⟨rfl, hq, hk⟩
 have HQa1 := hide hq
 have HKa1 : Hid (Keep (fun b => ¬ X b) w v1) := hide (HKa0.out.trans hk (fun b hb _ hx => hb (.inl (.inl hx))))
 clear hq HQa0 HKa0
 refine hK.out _ _ (hv0.mv hk (.inr rfl)) (fun hv1 => ?_)
 clear hK K
 try simp only [z1, z2, z3, z4, z5, z6, z7, z8]
 refine wpAnyH_done (by kernel_rfl) ?_ _
 go_upto_region 12 with (fail)
 have HQb0 : Hid (Pq (fun b => X b ∨ b = bx) v1.drew P p q D bo R (S.setPlan po pf pt) N S N) := hide (HQa1.out.kept ((Kept.refl [] v1).drew))
 have HKb0 : Hid (Keep (fun b => ¬ X b) w v1.drew) := hide (HKa1.out.kept ((Kept.refl [] v1).drew))
 clear HQa1 HKa1
 refine wp_region_held_drew (S := (Rd2 P p q D bx [.int .i64 11, encStr name, encStr to, .int .i64 at_, .int .i64 n, .slice da dn dc, .int .i64 po, .int .i64 pf, .int .i64 pt, .slice pa pn pc])) (by kernel_rfl) (hv1.kept ((Kept.refl [] v1).drew)) (fun hu0 => ?_)
 generalize World.drew v1 = u0 at hu0 HQb0 HKb0 ⊢
 refine wpAnyH_take (i := 0) (v := .pointer (some ⟨P, 0, none⟩)) rfl (by kernel_rfl) (by kernel_rfl) (by kernel_rfl) (fun _ _ _ h => h) (Or.inl ⟨by rfl, fun w hSw => by go_simp⟩) hu0 ?_
 try simp only [z1, z2, z3, z4, z5, z6, z7, z8]
 refine wpAnyH_take (i := 1) (v := .pointer (some ⟨P, 0, none⟩)) rfl (by kernel_rfl) (by kernel_rfl) (by kernel_rfl) (fun _ _ _ h => h) (Or.inl ⟨by rfl, fun w hSw => by go_simp⟩) hu0 ?_
 try simp only [z1, z2, z3, z4, z5, z6, z7, z8]
 refine wpAnyH_take (i := 2) (v := .pointer (some ⟨P, 1, none⟩)) rfl (by kernel_rfl) (by kernel_rfl) (by kernel_rfl) (fun _ _ _ h => h) (Or.inl ⟨by rfl, fun w hSw => by go_simp⟩) hu0 ?_
 try simp only [z1, z2, z3, z4, z5, z6, z7, z8]
 refine wpAnyH_take (i := 3) (v := .pointer (some ⟨q, 0, none⟩)) rfl (by kernel_rfl) (by kernel_rfl) (by kernel_rfl) (fun _ _ _ h => h) (Or.inl ⟨by rfl, fun w hSw => by have c0 := hSw.p1; go_simp⟩) hu0 ?_
 try simp only [z1, z2, z3, z4, z5, z6, z7, z8]
 refine wpAnyH_take (i := 4) (v := .pointer (some ⟨bx, 6, none⟩)) rfl (by kernel_rfl) (by kernel_rfl) (by kernel_rfl) (fun _ _ _ h => h) (Or.inl ⟨by rfl, fun w hSw => by go_simp⟩) hu0 ?_
 try simp only [z1, z2, z3, z4, z5, z6, z7, z8]
 refine wpAnyH_take (i := 5) (v := .agg #[.int .i64 po, .int .i64 pf, .int .i64 pt]) rfl (by kernel_rfl) (by kernel_rfl) (by kernel_rfl) (fun _ _ _ h => h) (Or.inl ⟨by rfl, fun w hSw => by have c0 := hSw.bx 6 _ rfl; have c1 := hSw.bx 7 _ rfl; have c2 := hSw.bx 8 _ rfl; go_simp⟩) hu0 ?_
 try simp only [z1, z2, z3, z4, z5, z6, z7, z8]
 refine wpAnyH_ready (rs := [6]) (by kernel_rfl) (by simp) (AllReadyH.cons (i := 6) rfl (fun K hK => ?_) AllReadyH.nil)
 rw [if_pos (by rfl)]
 go_simp
 refine (plan_p2 HQb0.out po pf pt hpw).mono ?_
 rintro e u1 ⟨rfl, hq, hk⟩
 have HQb1 := hide hq
 have HKb1 : Hid (Keep (fun b => ¬ X b) w u1) := hide (HKb0.out.trans hk (fun b hb _ hx => hb (.inl (.inl hx))))
 clear hq HQb0 HKb0
 refine hK.out _ _ (hu0.mv hk (.inr rfl)) (fun hu1 => ?_)
 clear hK K
 try simp only [z1, z2, z3, z4, z5, z6, z7, z8]
 refine wpAnyH_done (by kernel_rfl) ?_ _
 go_wp2
 go_ret
 exact ⟨rfl, HQb1.out.less (fun _ h => .inl h), HKb1.out⟩
set_option maxHeartbeats 3200000 in
set_option maxRecDepth 100000 in
theorem ot_look {X : Nat → Prop} {w : World} {P p q D : Nat} {bo : Option Nat} {R : List UInt8} {S : Ds} {N : Nat} (h : Pq X w P p q D bo R S N S N) (name to : By) (at_ n : Int) (da : Option Addr) (dn dc : Nat) (ds : By) (po pf pt : Int) (pa : Option Addr) (pn pc : Nat) (ps : List Int) (hi : StpIn w ⟨13, name, to, at_, n, da, dn, dc, ds, po, pf, pt, pa, pn, pc, ps⟩) (hN : N + dn + 5 ≤ 268435456) :
  Calls Tryz.prog 63 #[.pointer (some ⟨P, 0, none⟩), .agg #[.int .i64 13, encStr name, encStr to, .int .i64 at_, .int .i64 n, .slice da dn dc, .int .i64 po, .int .i64 pf, .int .i64 pt, .slice pa pn pc]] w fun e w' => e = .returned (.bool true) ∧ Pq X w' P p q D bo R S.look N S.look N ∧ Keep (fun b => ¬ X b) w w' := by
 have hnm : name.length ≤ 4611686018427387904 := hi.nm
 have haw : (Lit.int .i64 at_).wf = true := hi.wa
 have hnw : (Lit.int .i64 n).wf = true := hi.wn
 have hpw : (Lit.int .i64 po).wf = true ∧ (Lit.int .i64 pf).wf = true ∧ (Lit.int .i64 pt).wf = true := ⟨hi.wo, hi.wf, hi.wt⟩
 obtain ⟨w1, hw1⟩ : ∃ w1, w1 = w.alloc (.cells #[.int .i64 13, encStr name, encStr to, .int .i64 at_, .int .i64 n, .slice da dn dc, .int .i64 po, .int .i64 pf, .int .i64 pt, .slice pa pn pc] 52) := ⟨_, rfl⟩
 obtain ⟨h1, hR, hk1⟩ := h.box [.int .i64 13, encStr name, encStr to, .int .i64 at_, .int .i64 n, .slice da dn dc, .int .i64 po, .int .i64 pf, .int .i64 pt, .slice pa pn pc] 52 hw1
 have i0 : w1.cell? ⟨w.heap.size, 0, none⟩ = some (.int .i64 13) := hR.bx 0 _ rfl
 have HK : Hid (Keep (fun b => ¬ X b) w w1) := hide (Keep.ofNone hk1)
 clear h hk1 hi
 go_enter Tryz.func63, Tryz.ntmps63
 go_upto_region 1 with (fail)
 rw [← hw1]
 clear hw1
 generalize w.heap.size = bx at *
 have HQ := hide h1
 have HR := hide hR
 clear h1 hR
 have c0 := HR.out.p0
 have hl1 := look_p1 HQ.out
 go_upto_region 21 with (go_at_call 94; refine hl1.mono ?_; rintro e w2 ⟨rfl, hq2, hk2⟩; have H2 := hide (And.intro hq2 hk2); clear hl1 hq2 hk2 c0)
 have c1 := (HR.out.mv H2.out.2 (.inr rfl)).p1
 have hl2 := look_p2 H2.out.1
 clear i0
 go_wp2_with (go_at_call 95; refine hl2.mono ?_; rintro e w3 ⟨rfl, hq3, hk3⟩; have H3 := hide (And.intro hq3 hk3); clear hl2 hq3 hk3 c1)
 go_ret
 exact ⟨rfl, H3.out.1.less (fun _ h => .inl h), (HK.out.trans H2.out.2 (fun b hb _ hx => hb (.inl (.inl hx)))).trans H3.out.2 (fun b hb _ hx => hb (.inl (.inl hx)))⟩
set_option maxHeartbeats 3200000 in
set_option maxRecDepth 100000 in
theorem ot_none {X : Nat → Prop} {w : World} {P p q D : Nat} {bo : Option Nat} {R : List UInt8} {S : Ds} {N : Nat} (h : Pq X w P p q D bo R S N S N) (kd : Int) (hkd : (kd == 9) = false ∧ (kd == 10) = false ∧ (kd == 11) = false ∧ (kd == 12) = false ∧ (kd == 13) = false ∧ (kd == 14) = false) (name to : By) (at_ n : Int) (da : Option Addr) (dn dc : Nat) (ds : By) (po pf pt : Int) (pa : Option Addr) (pn pc : Nat) (ps : List Int) (hi : StpIn w ⟨kd, name, to, at_, n, da, dn, dc, ds, po, pf, pt, pa, pn, pc, ps⟩) (hN : N + dn + 5 ≤ 268435456) :
  Calls Tryz.prog 63 #[.pointer (some ⟨P, 0, none⟩), .agg #[.int .i64 kd, encStr name, encStr to, .int .i64 at_, .int .i64 n, .slice da dn dc, .int .i64 po, .int .i64 pf, .int .i64 pt, .slice pa pn pc]] w fun e w' => e = .returned (.bool true) ∧ Pq X w' P p q D bo R S N S N ∧ Keep (fun b => ¬ X b) w w' := by
 have hnm : name.length ≤ 4611686018427387904 := hi.nm
 have haw : (Lit.int .i64 at_).wf = true := hi.wa
 have hnw : (Lit.int .i64 n).wf = true := hi.wn
 have hpw : (Lit.int .i64 po).wf = true ∧ (Lit.int .i64 pf).wf = true ∧ (Lit.int .i64 pt).wf = true := ⟨hi.wo, hi.wf, hi.wt⟩
 obtain ⟨w1, hw1⟩ : ∃ w1, w1 = w.alloc (.cells #[.int .i64 kd, encStr name, encStr to, .int .i64 at_, .int .i64 n, .slice da dn dc, .int .i64 po, .int .i64 pf, .int .i64 pt, .slice pa pn pc] 52) := ⟨_, rfl⟩
 obtain ⟨h1, hR, hk1⟩ := h.box [.int .i64 kd, encStr name, encStr to, .int .i64 at_, .int .i64 n, .slice da dn dc, .int .i64 po, .int .i64 pf, .int .i64 pt, .slice pa pn pc] 52 hw1
 have i0 : w1.cell? ⟨w.heap.size, 0, none⟩ = some (.int .i64 kd) := hR.bx 0 _ rfl
 have HK : Hid (Keep (fun b => ¬ X b) w w1) := hide (Keep.ofNone hk1)
 clear h hk1 hi
 go_enter Tryz.func63, Tryz.ntmps63
 go_upto_region 1 with (fail)
 rw [← hw1]
 clear hw1
 generalize w.heap.size = bx at *
 have HQ := hide h1
 have HR := hide hR
 clear h1 hR
 obtain ⟨k9, k10, k11, k12, k13, k14⟩ := hkd
 go_wp2
 go_ret
 exact ⟨rfl, HQ.out.less (fun _ h => .inl h), HK.out⟩
set_option maxHeartbeats 3200000 in
set_option maxRecDepth 100000 in
theorem ot_size {X : Nat → Prop} {w : World} {P p q D : Nat} {bo : Option Nat} {R : List UInt8} {S : Ds} {N : Nat} (h : Pq X w P p q D bo R S N S N) (name to : By) (at_ n : Int) (da : Option Addr) (dn dc : Nat) (ds : By) (po pf pt : Int) (pa : Option Addr) (pn pc : Nat) (ps : List Int) (hi : StpIn w ⟨10, name, to, at_, n, da, dn, dc, ds, po, pf, pt, pa, pn, pc, ps⟩) (hN : N + dn + 5 ≤ 268435456) :
  Calls Tryz.prog 63 #[.pointer (some ⟨P, 0, none⟩), .agg #[.int .i64 10, encStr name, encStr to, .int .i64 at_, .int .i64 n, .slice da dn dc, .int .i64 po, .int .i64 pf, .int .i64 pt, .slice pa pn pc]] w fun e w' => e = .returned (.bool true) ∧ Pq X w' P p q D bo R S N S N ∧ Keep (fun b => ¬ X b) w w' := by
 have hnm : name.length ≤ 4611686018427387904 := hi.nm
 have haw : (Lit.int .i64 at_).wf = true := hi.wa
 have hnw : (Lit.int .i64 n).wf = true := hi.wn
 have hpw : (Lit.int .i64 po).wf = true ∧ (Lit.int .i64 pf).wf = true ∧ (Lit.int .i64 pt).wf = true := ⟨hi.wo, hi.wf, hi.wt⟩
 obtain ⟨w1, hw1⟩ : ∃ w1, w1 = w.alloc (.cells #[.int .i64 10, encStr name, encStr to, .int .i64 at_, .int .i64 n, .slice da dn dc, .int .i64 po, .int .i64 pf, .int .i64 pt, .slice pa pn pc] 52) := ⟨_, rfl⟩
 obtain ⟨h1, hR, hk1⟩ := h.box [.int .i64 10, encStr name, encStr to, .int .i64 at_, .int .i64 n, .slice da dn dc, .int .i64 po, .int .i64 pf, .int .i64 pt, .slice pa pn pc] 52 hw1
 have i0 : w1.cell? ⟨w.heap.size, 0, none⟩ = some (.int .i64 10) := hR.bx 0 _ rfl
 have HK : Hid (Keep (fun b => ¬ X b) w w1) := hide (Keep.ofNone hk1)
 clear h hk1 hi
 go_enter Tryz.func63, Tryz.ntmps63
 go_upto_region 1 with (fail)
 rw [← hw1]
 clear hw1
 generalize w.heap.size = bx at *
 have HQ := hide h1
 have HR := hide hR
 clear h1 hR
 go_upto_region 7 with (fail)
 clear i0
 have HQa0 : Hid (Pq (fun b => X b ∨ b = bx) w1.drew P p q D bo R S N S N) := hide (HQ.out.kept ((Kept.refl [] w1).drew))
 have HKa0 : Hid (Keep (fun b => ¬ X b) w w1.drew) := hide (HK.out.kept ((Kept.refl [] w1).drew))
 clear HQ HK
 refine wp_region_held_drew (S := (Rd2 P p q D bx [.int .i64 10, encStr name, encStr to, .int .i64 at_, .int .i64 n, .slice da dn dc, .int .i64 po, .int .i64 pf, .int .i64 pt, .slice pa pn pc])) (by kernel_rfl) (HR.out.kept ((Kept.refl [] w1).drew)) (fun hv0 => ?_)
 generalize World.drew w1 = v0 at hv0 HQa0 HKa0 ⊢
 refine wpAnyH_take (i := 0) (v := .pointer (some ⟨P, 0, none⟩)) rfl (by kernel_rfl) (by kernel_rfl) (by kernel_rfl) (fun _ _ _ h => h) (Or.inl ⟨by rfl, fun w hSw => by go_simp⟩) hv0 ?_
 try simp only [z1, z2, z3, z4, z5, z6, z7, z8]
 refine wpAnyH_take (i := 1) (v := .pointer (some ⟨P, 0, none⟩)) rfl (by kernel_rfl) (by kernel_rfl) (by kernel_rfl) (fun _ _ _ h => h) (Or.inl ⟨by rfl, fun w hSw => by go_simp⟩) hv0 ?_
 try simp only [z1, z2, z3, z4, z5, z6, z7, z8]
 refine wpAnyH_take (i := 2) (v := .pointer (some ⟨P, 0, none⟩)) rfl (by kernel_rfl) (by kernel_rfl) (by kernel_rfl) (fun _ _ _ h => h) (Or.inl ⟨by rfl, fun w hSw => by go_simp⟩) hv0 ?_
 try simp only [z1, z2, z3, z4, z5, z6, z7, z8]
 refine wpAnyH_take (i := 3) (v := .pointer (some ⟨p, 0, none⟩)) rfl (by kernel_rfl) (by kernel_rfl) (by kernel_rfl) (fun _ _ _ h => h) (Or.inl ⟨by rfl, fun w hSw => by have c0 := hSw.p0; go_simp⟩) hv0 ?_
 try simp only [z1, z2, z3, z4, z5, z6, z7, z8]
 refine wpAnyH_take (i := 4) (v := .pointer (some ⟨bx, 1, none⟩)) rfl (by kernel_rfl) (by kernel_rfl) (by kernel_rfl) (fun _ _ _ h => h) (Or.inl ⟨by rfl, fun w hSw => by go_simp⟩) hv0 ?_
 try simp only [z1, z2, z3, z4, z5, z6, z7, z8]
 refine wpAnyH_take (i := 5) (v := encStr name) rfl (by kernel_rfl) (by kernel_rfl) (by kernel_rfl) (fun _ _ _ h => h) (Or.inl ⟨by rfl, fun w hSw => by have c0 := hSw.bx 1 _ rfl; go_simp⟩) hv0 ?_
 try simp only [z1, z2, z3, z4, z5, z6, z7, z8]
 refine wpAnyH_ready (rs := [6]) (by kernel_rfl) (by simp) (AllReadyH.cons (i := 6) rfl (fun K hK => ?_) AllReadyH.nil)
 rw [if_pos (by rfl)]
 go_simp
 refine (size_p1 HQa0.out name hnm).mono ?_
 rintro e v1 ⟨rfl, hw⟩
 obtain rfl := hw.symm
 refine hK.out _ _ (hv0) (fun hv1 => ?_)
 clear hK K
 try simp only [z1, z2, z3, z4, z5, z6, z7, z8]
 refine wpAnyH_take (i := 7) (v := .tuple #[.int .i64 (S.size name), .int .i64 (S.find name).1]) rfl (by kernel_rfl) (by kernel_rfl) (by kernel_rfl) (fun _ _ _ h => h) (Or.inl ⟨by rfl, fun w hSw => by go_simp⟩) hv1 ?_
 try simp only [z1, z2, z3, z4, z5, z6, z7, z8]
 refine wpAnyH_take (i := 8) (v := .int .i64 (S.size name)) rfl (by kernel_rfl) (by kernel_rfl) (by kernel_rfl) (fun _ _ _ h => h) (Or.inl ⟨by rfl, fun w hSw => by go_simp⟩) hv1 ?_
 try simp only [z1, z2, z3, z4, z5, z6, z7, z8]
 refine wpAnyH_take (i := 9) (v := .int .i64 (S.find name).1) rfl (by kernel_rfl) (by kernel_rfl) (by kernel_rfl) (fun _ _ _ h => h) (Or.inl ⟨by rfl, fun w hSw => by go_simp⟩) hv1 ?_
 try simp only [z1, z2, z3, z4, z5, z6, z7, z8]
 refine wpAnyH_take (i := 10) (v := .int .i64 (S.size name)) rfl (by kernel_rfl) (by kernel_rfl) (by kernel_rfl) (fun _ _ _ h => h) (Or.inl ⟨by rfl, fun w hSw => by go_simp⟩) hv1 ?_
 try simp only [z1, z2, z3, z4, z5, z6, z7, z8]
 refine wpAnyH_take (i := 11) (v := .int .i64 (S.find name).1) rfl (by kernel_rfl) (by kernel_rfl) (by kernel_rfl) (fun _ _ _ h => h) (Or.inl ⟨by rfl, fun w hSw => by go_simp⟩) hv1 ?_
 try simp only [z1, z2, z3, z4, z5, z6, z7, z8]
 refine wpAnyH_done (by kernel_rfl) ?_ _
 go_upto_region 8 with (fail)
 have HQb0 : Hid (Pq (fun b => X b ∨ b = bx) v0.drew P p q D bo R S N S N) := hide (HQa0.out.kept ((Kept.refl [] v0).drew))
 have HKb0 : Hid (Keep (fun b => ¬ X b) w v0.drew) := hide (HKa0.out.kept ((Kept.refl [] v0).drew))
 clear HQa0 HKa0
 refine wp_region_held_drew (S := (Rd2 P p q D bx [.int .i64 10, encStr name, encStr to, .int .i64 at_, .int .i64 n, .slice da dn dc, .int .i64 po, .int .i64 pf, .int .i64 pt, .slice pa pn pc])) (by kernel_rfl) (hv1.kept ((Kept.refl [] v0).drew)) (fun hu0 => ?_)
 generalize World.drew v0 = u0 at hu0 HQb0 HKb0 ⊢
 refine wpAnyH_take (i := 0) (v := .pointer (some ⟨P, 0, none⟩)) rfl (by kernel_rfl) (by kernel_rfl) (by kernel_rfl) (fun _ _ _ h => h) (Or.inl ⟨by rfl, fun w hSw => by go_simp⟩) hu0 ?_
 try simp only [z1, z2, z3, z4, z5, z6, z7, z8]
 refine wpAnyH_take (i := 1) (v := .pointer (some ⟨P, 0, none⟩)) rfl (by kernel_rfl) (by kernel_rfl) (by kernel_rfl) (fun _ _ _ h => h) (Or.inl ⟨by rfl, fun w hSw => by go_simp⟩) hu0 ?_
 try simp only [z1, z2, z3, z4, z5, z6, z7, z8]
 refine wpAnyH_take (i := 2) (v := .pointer (some ⟨P, 1, none⟩)) rfl (by kernel_rfl) (by kernel_rfl) (by kernel_rfl) (fun _ _ _ h => h) (Or.inl ⟨by rfl, fun w hSw => by go_simp⟩) hu0 ?_
 try simp only [z1, z2, z3, z4, z5, z6, z7, z8]
 refine wpAnyH_take (i := 3) (v := .pointer (some ⟨q, 0, none⟩)) rfl (by kernel_rfl) (by kernel_rfl) (by kernel_rfl) (fun _ _ _ h => h) (Or.inl ⟨by rfl, fun w hSw => by have c0 := hSw.p1; go_simp⟩) hu0 ?_
 try simp only [z1, z2, z3, z4, z5, z6, z7, z8]
 refine wpAnyH_take (i := 4) (v := .pointer (some ⟨bx, 1, none⟩)) rfl (by kernel_rfl) (by kernel_rfl) (by kernel_rfl) (fun _ _ _ h => h) (Or.inl ⟨by rfl, fun w hSw => by go_simp⟩) hu0 ?_
 try simp only [z1, z2, z3, z4, z5, z6, z7, z8]
 refine wpAnyH_take (i := 5) (v := encStr name) rfl (by kernel_rfl) (by kernel_rfl) (by kernel_rfl) (fun _ _ _ h => h) (Or.inl ⟨by rfl, fun w hSw => by have c0 := hSw.bx 1 _ rfl; go_simp⟩) hu0 ?_
 try simp only [z1, z2, z3, z4, z5, z6, z7, z8]
 refine wpAnyH_ready (rs := [6]) (by kernel_rfl) (by simp) (AllReadyH.cons (i := 6) rfl (fun K hK => ?_) AllReadyH.nil)
 rw [if_pos (by rfl)]
 go_simp
 refine (size_p2 HQb0.out (by omega) name hnm).mono ?_
 rintro e u1 ⟨rfl, hw⟩
 obtain rfl := hw.symm
 refine hK.out _ _ (hu0) (fun hu1 => ?_)
 clear hK K
 try simp only [z1, z2, z3, z4, z5, z6, z7, z8]
 refine wpAnyH_take (i := 7) (v := .tuple #[.int .i64 (S.size name), .int .i64 (S.find name).1]) rfl (by kernel_rfl) (by kernel_rfl) (by kernel_rfl) (fun _ _ _ h => h) (Or.inl ⟨by rfl, fun w hSw => by go_simp⟩) hu1 ?_
 try simp only [z1, z2, z3, z4, z5, z6, z7, z8]
 refine wpAnyH_take (i := 8) (v := .int .i64 (S.size name)) rfl (by kernel_rfl) (by kernel_rfl) (by kernel_rfl) (fun _ _ _ h => h) (Or.inl ⟨by rfl, fun w hSw => by go_simp⟩) hu1 ?_
 try simp only [z1, z2, z3, z4, z5, z6, z7, z8]
 refine wpAnyH_take (i := 9) (v := .int .i64 (S.find name).1) rfl (by kernel_rfl) (by kernel_rfl) (by kernel_rfl) (fun _ _ _ h => h) (Or.inl ⟨by rfl, fun w hSw => by go_simp⟩) hu1 ?_
 try simp only [z1, z2, z3, z4, z5, z6, z7, z8]
 refine wpAnyH_take (i := 10) (v := .int .i64 (S.size name)) rfl (by kernel_rfl) (by kernel_rfl) (by kernel_rfl) (fun _ _ _ h => h) (Or.inl ⟨by rfl, fun w hSw => by go_simp⟩) hu1 ?_
 try simp only [z1, z2, z3, z4, z5, z6, z7, z8]
 refine wpAnyH_take (i := 11) (v := .int .i64 (S.find name).1) rfl (by kernel_rfl) (by kernel_rfl) (by kernel_rfl) (fun _ _ _ h => h) (Or.inl ⟨by rfl, fun w hSw => by go_simp⟩) hu1 ?_
 try simp only [z1, z2, z3, z4, z5, z6, z7, z8]
 refine wpAnyH_done (by kernel_rfl) ?_ _
 go_upto_region 9 with (fail)
 have HQc0 : Hid (Pq (fun b => X b ∨ b = bx) u0.drew P p q D bo R S N S N) := hide (HQb0.out.kept ((Kept.refl [] u0).drew))
 have HKc0 : Hid (Keep (fun b => ¬ X b) w u0.drew) := hide (HKb0.out.kept ((Kept.refl [] u0).drew))
 clear HQb0 HKb0
 refine wp_region_held_drew (S := (Rd2 P p q D bx [.int .i64 10, encStr name, encStr to, .int .i64 at_, .int .i64 n, .slice da dn dc, .int .i64 po, .int .i64 pf, .int .i64 pt, .slice pa pn pc])) (by kernel_rfl) (hu1.kept ((Kept.refl [] u0).drew)) (fun hx0 => ?_)
 generalize World.drew u0 = x0 at hx0 HQc0 HKc0 ⊢
 refine wpAnyH_take (i := 0) (v := .int .i64 (S.find name).1) rfl (by kernel_rfl) (by kernel_rfl) (by kernel_rfl) (fun _ _ _ h => h) (Or.inl ⟨by rfl, fun w hSw => by go_simp⟩) hx0 ?_
 try simp only [z1, z2, z3, z4, z5, z6, z7, z8]
 refine wpAnyH_take (i := 2) (v := .int .i64 (S.find name).1) rfl (by kernel_rfl) (by kernel_rfl) (by kernel_rfl) (fun _ _ _ h => h) (Or.inl ⟨by rfl, fun w hSw => by go_simp⟩) hx0 ?_
 try simp only [z1, z2, z3, z4, z5, z6, z7, z8]
 refine wpAnyH_ready (rs := [1]) (by kernel_rfl) (by simp) (AllReadyH.cons (i := 1) rfl (fun K hK => ?_) AllReadyH.nil)
 rw [if_pos (by rfl)]
 go_simp
 refine (num_ok _ _).mono ?_
 rintro e x1 ⟨rfl, hw⟩
 obtain rfl := hw.symm
 refine hK.out _ _ (hx0) (fun hx1 => ?_)
 clear hK K
 try simp only [z1, z2, z3, z4, z5, z6, z7, z8]
 refine wpAnyH_take (i := 3) (v := .bool true) rfl (by kernel_rfl) (by kernel_rfl) (by kernel_rfl) (fun _ _ _ h => h) (Or.inl ⟨by rfl, fun w hSw => by go_simp⟩) hx1 ?_
 try simp only [z1, z2, z3, z4, z5, z6, z7, z8]
 refine wpAnyH_take (i := 4) (v := .bool true) rfl (by kernel_rfl) (by kernel_rfl) (by kernel_rfl) (fun _ _ _ h => h) (Or.inl ⟨by rfl, fun w hSw => by go_simp⟩) hx1 ?_
 try simp only [z1, z2, z3, z4, z5, z6, z7, z8]
 refine wpAnyH_take (i := 5) (v := .int .i64 (S.size name)) rfl (by kernel_rfl) (by kernel_rfl) (by kernel_rfl) (fun _ _ _ h => h) (Or.inl ⟨by rfl, fun w hSw => by go_simp⟩) hx1 ?_
 try simp only [z1, z2, z3, z4, z5, z6, z7, z8]
 refine wpAnyH_take (i := 6) (v := .int .i64 (S.size name)) rfl (by kernel_rfl) (by kernel_rfl) (by kernel_rfl) (fun _ _ _ h => h) (Or.inl ⟨by rfl, fun w hSw => by go_simp⟩) hx1 ?_
 try simp only [z1, z2, z3, z4, z5, z6, z7, z8]
 refine wpAnyH_take (i := 7) (v := .bool true) rfl (by kernel_rfl) (by kernel_rfl) (by kernel_rfl) (fun _ _ _ h => h) (Or.inl ⟨by rfl, fun w hSw => by go_simp⟩) hx1 ?_
 try simp only [z1, z2, z3, z4, z5, z6, z7, z8]
 refine wpAnyH_take (i := 8) (v := .bool true) rfl (by kernel_rfl) (by kernel_rfl) (by kernel_rfl) (fun _ _ _ h => h) (Or.inl ⟨by rfl, fun w hSw => by go_simp⟩) hx1 ?_
 try simp only [z1, z2, z3, z4, z5, z6, z7, z8]
 refine wpAnyH_take (i := 9) (v := .bool true) rfl (by kernel_rfl) (by kernel_rfl) (by kernel_rfl) (fun _ _ _ h => h) (Or.inl ⟨by rfl, fun w hSw => by go_simp⟩) hx1 ?_
 try simp only [z1, z2, z3, z4, z5, z6, z7, z8]
 refine wpAnyH_take (i := 10) (v := .pointer (some ⟨P, 0, none⟩)) rfl (by kernel_rfl) (by kernel_rfl) (by kernel_rfl) (fun _ _ _ h => h) (Or.inl ⟨by rfl, fun w hSw => by go_simp⟩) hx1 ?_
 try simp only [z1, z2, z3, z4, z5, z6, z7, z8]
 refine wpAnyH_take (i := 11) (v := .pointer (some ⟨P, 0, none⟩)) rfl (by kernel_rfl) (by kernel_rfl) (by kernel_rfl) (fun _ _ _ h => h) (Or.inl ⟨by rfl, fun w hSw => by go_simp⟩) hx1 ?_
 try simp only [z1, z2, z3, z4, z5, z6, z7, z8]
 refine wpAnyH_take (i := 12) (v := .pointer (some ⟨P, 0, none⟩)) rfl (by kernel_rfl) (by kernel_rfl) (by kernel_rfl) (fun _ _ _ h => h) (Or.inl ⟨by rfl, fun w hSw => by go_simp⟩) hx1 ?_
 try simp only [z1, z2, z3, z4, z5, z6, z7, z8]
 refine wpAnyH_take (i := 13) (v := .pointer (some ⟨p, 0, none⟩)) rfl (by kernel_rfl) (by kernel_rfl) (by kernel_rfl) (fun _ _ _ h => h) (Or.inl ⟨by rfl, fun w hSw => by have c0 := hSw.p0; go_simp⟩) hx1 ?_
 try simp only [z1, z2, z3, z4, z5, z6, z7, z8]
 refine wpAnyH_take (i := 14) (v := .pointer (some ⟨bx, 1, none⟩)) rfl (by kernel_rfl) (by kernel_rfl) (by kernel_rfl) (fun _ _ _ h => h) (Or.inl ⟨by rfl, fun w hSw => by go_simp⟩) hx1 ?_
 try simp only [z1, z2, z3, z4, z5, z6, z7, z8]
 refine wpAnyH_take (i := 15) (v := encStr name) rfl (by kernel_rfl) (by kernel_rfl) (by kernel_rfl) (fun _ _ _ h => h) (Or.inl ⟨by rfl, fun w hSw => by have c0 := hSw.bx 1 _ rfl; go_simp⟩) hx1 ?_
 try simp only [z1, z2, z3, z4, z5, z6, z7, z8]
 refine wpAnyH_take (i := 17) (v := .pointer (some ⟨P, 0, none⟩)) rfl (by kernel_rfl) (by kernel_rfl) (by kernel_rfl) (fun _ _ _ h => h) (Or.inl ⟨by rfl, fun w hSw => by go_simp⟩) hx1 ?_
 try simp only [z1, z2, z3, z4, z5, z6, z7, z8]
 refine wpAnyH_take (i := 18) (v := .pointer (some ⟨P, 0, none⟩)) rfl (by kernel_rfl) (by kernel_rfl) (by kernel_rfl) (fun _ _ _ h => h) (Or.inl ⟨by rfl, fun w hSw => by go_simp⟩) hx1 ?_
 try simp only [z1, z2, z3, z4, z5, z6, z7, z8]
 refine wpAnyH_take (i := 19) (v := .pointer (some ⟨P, 1, none⟩)) rfl (by kernel_rfl) (by kernel_rfl) (by kernel_rfl) (fun _ _ _ h => h) (Or.inl ⟨by rfl, fun w hSw => by go_simp⟩) hx1 ?_
 try simp only [z1, z2, z3, z4, z5, z6, z7, z8]
 refine wpAnyH_take (i := 20) (v := .pointer (some ⟨q, 0, none⟩)) rfl (by kernel_rfl) (by kernel_rfl) (by kernel_rfl) (fun _ _ _ h => h) (Or.inl ⟨by rfl, fun w hSw => by have c0 := hSw.p1; go_simp⟩) hx1 ?_
 try simp only [z1, z2, z3, z4, z5, z6, z7, z8]
 refine wpAnyH_take (i := 21) (v := .pointer (some ⟨bx, 1, none⟩)) rfl (by kernel_rfl) (by kernel_rfl) (by kernel_rfl) (fun _ _ _ h => h) (Or.inl ⟨by rfl, fun w hSw => by go_simp⟩) hx1 ?_
 try simp only [z1, z2, z3, z4, z5, z6, z7, z8]
 refine wpAnyH_take (i := 22) (v := encStr name) rfl (by kernel_rfl) (by kernel_rfl) (by kernel_rfl) (fun _ _ _ h => h) (Or.inl ⟨by rfl, fun w hSw => by have c0 := hSw.bx 1 _ rfl; go_simp⟩) hx1 ?_
 try simp only [z1, z2, z3, z4, z5, z6, z7, z8]
 refine wpAnyH_ready (rs := [16]) (by kernel_rfl) (by simp) (AllReadyH.cons (i := 16) rfl (fun K hK => ?_) AllReadyH.nil)
 rw [if_pos (by rfl)]
 go_simp
 refine (list_p1 HQc0.out (by omega) name hnm).mono ?_
 rintro e x2 ⟨v, rfl, hT⟩
 have hK2 := hT.keep
 have HQc2 := hide (HQc0.out.kept hT.keep)
 have HKc2 := hide (HKc0.out.kept hT.keep)
 obtain ⟨ro, rc, hv, _⟩ := own_shape hT.row
 have HT2 := hide hT
 clear HQc0 HKc0 hT
 refine hK.out _ _ (hx1.kept hK2) (fun hx2 => ?_)
 clear hK K
 try simp only [z1, z2, z3, z4, z5, z6, z7, z8]
 refine wpAnyH_ready (rs := [23]) (by kernel_rfl) (by simp) (AllReadyH.cons (i := 23) rfl (fun K hK => ?_) AllReadyH.nil)
 rw [if_pos (by rfl)]
 go_simp
 refine (list_p2 HQc2.out (by omega) name hnm).mono ?_
 rintro e x3 ⟨v', rfl, hT⟩
 have hK3 := hT.keep
 have HQc3 := hide (HQc2.out.kept hT.keep)
 have HKc3 := hide (HKc2.out.kept hT.keep)
 have HT3 := hide (tl_kept HT2.out hT.keep)
 obtain ⟨so, sc, hv', _⟩ := own_shape hT.row
 have HT4 := hide hT
 clear HQc2 HKc2 hT HT2
 have hsm := list_small HQc3.out.tw.bd1 HQc3.out.tw.wf1 name
 subst hv hv'
 refine hK.out _ _ (hx2.kept hK3) (fun hx3 => ?_)
 clear hK K
 try simp only [z1, z2, z3, z4, z5, z6, z7, z8]
 refine wpAnyH_ready (rs := [24]) (by kernel_rfl) (by simp) (AllReadyH.cons (i := 24) rfl (fun K hK => ?_) AllReadyH.nil)
 rw [if_pos (by rfl)]
 go_simp
 refine (names_yes ro so _ rc sc (S.list name) _ rfl (by omega) (Txs.of HT3.out.row) (Txs.of HT4.out.row)).mono ?_
 rintro e x4 ⟨rfl, kk, hw⟩
 have hS4 : Rd2 P p q D bx [.int .i64 10, encStr name, encStr to, .int .i64 at_, .int .i64 n, .slice da dn dc, .int .i64 po, .int .i64 pf, .int .i64 pt, .slice pa pn pc] x4 := by rw [hw]; exact hx3.kept ((Kept.refl [] _).drewN kk)
 have HQ5 : Hid (Pq (fun b => X b ∨ b = bx) x4 P p q D bo R S N S N ∧ Keep (fun b => ¬ X b) w x4) := hide (by rw [hw]; exact ⟨HQc3.out.kept ((Kept.refl [] _).drewN kk), HKc3.out.drewN kk⟩)
 clear hw HQc3 HKc3 HT3 HT4
 refine hK.out _ _ (hS4) (fun hx4 => ?_)
 clear hK K
 try simp only [z1, z2, z3, z4, z5, z6, z7, z8]
 refine wpAnyH_take (i := 25) (v := .bool true) rfl (by kernel_rfl) (by kernel_rfl) (by kernel_rfl) (fun _ _ _ h => h) (Or.inl ⟨by rfl, fun w hSw => by go_simp⟩) hx4 ?_
 try simp only [z1, z2, z3, z4, z5, z6, z7, z8]
 refine wpAnyH_take (i := 26) (v := .bool true) rfl (by kernel_rfl) (by kernel_rfl) (by kernel_rfl) (fun _ _ _ h => h) (Or.inl ⟨by rfl, fun w hSw => by go_simp⟩) hx4 ?_
 try simp only [z1, z2, z3, z4, z5, z6, z7, z8]
 refine wpAnyH_done (by kernel_rfl) ?_ _
 go_wp2
 go_ret
 exact ⟨rfl, HQ5.out.1.less (fun _ h => .inl h), HQ5.out.2⟩
end

end Go.Proofs.YteckiednnaianaaGreat
