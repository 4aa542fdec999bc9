import Derived.Test.YtngaimahhgmciaaGreatDoorNns
import Derived.Test.YtngaimahhgmciaaGreatDoorNps
namespace Go.Proofs.YtngaimahhgmciaaGreatDoor
open Go.RowKit
set_option linter.unusedVariables false
set_option linter.unusedSimpArgs false
theorem yields_build {P : Program} {o : Oper} {a : Act} {w : World} (t : TypeId) (parts : List (Nat × Operand)) (ho : o.op = .build t parts.toArray) (vs : List (Nat × Value)) (hv : (parts.map fun x => (x.1, a.eval x.2)) = vs) (cells : Array Value) (hc : P.built t vs = some cells) : (execOp a.eval o).run P w = .ok (.value (.agg cells)) w := by
 have e : (parts.toArray.map fun (i, x) => (i, a.eval x)).toList = vs := by rw [← hv]; simp
 unfold execOp
 simp only [ho, Sem.run_bind, Sem.run_pure, run_build w t _ cells (by rw [e]; exact hc), Result.andThen_ok]
theorem builtNK (nm : ByteArray) (k : Int) : Tryz.prog.built 69 [(0, .string nm), (1, .int .i64 k)] = some (Value.string nm :: Value.int .i64 k :: bys (List.replicate 32 0)).toArray := by kernel_rfl
theorem Tryz.cutName (b off n cap a m : Nat) (xs : List UInt8) (hx : xs.length = n) (hL : n ≤ cap) (h : a + 2 + m ≤ n) :
  ∃ ao', (∀ W, (Instr.slice 42 (.slice (some ⟨b, off, none⟩) n cap) (some (.int .i64 ((a : Int) + 2))) (some (.int .i64 ((a : Int) + 2 + (m : Int)))) none).run Tryz.prog W = .ok (.slice (some ao') m (cap - (a + 2))) W) ∧ ∀ W : World, (∀ i, i < xs.length → W.cell? ⟨b, off + i, none⟩ = some (.int .u8 (xs.getD i 0).toNat)) → Sl W (some ao') ((xs.drop (a + 2)).take m) := by
 refine ⟨if cap = a + 2 then ⟨b, off, none⟩ else ⟨b, off + (a + 2), none⟩, fun W => ?_, fun W hc => ?_⟩
 ·have hz : (sizeOf (Tryz.prog.elem 42)).run Tryz.prog W = .ok 1 W := by kernel_rfl
  have hr := run_slice_lh (P := Tryz.prog) W 42 (some ⟨b, off, none⟩) n cap (by kernel_rfl) .i64 .i64 ((a : Int) + 2) ((a : Int) + 2 + (m : Int)) (by omega) (by omega) (by omega)
  rw [hr, hz]
  have e1 : ((a : Int) + 2).toNat = a + 2 := by omega
  have e2 : ((a : Int) + 2 + (m : Int)).toNat = a + 2 + m := by omega
  simp only [Result.andThen_ok, sliced, e1, e2, Nat.mul_one, Option.map_some, Addr.add_mid, show a + 2 + m - (a + 2) = m by omega]
  split <;> rfl
 ·split
  ·have : (xs.drop (a + 2)).take m = [] := by apply List.eq_nil_of_length_eq_zero; simp; omega
   rw [this]
   exact Sl.nil _ _
  ·refine Sl.of (fun i hi => ?_)
   simp only [List.length_take, List.length_drop] at hi
   rw [Nat.add_assoc, hc (a + 2 + i) (by omega)]
   simp [List.getElem?_take, show i < m by omega, List.getElem?_drop]
namespace Tn
theorem entAt_inv {xs : List UInt8} {a : Nat} {e : Ent} {a' : Nat} (h : entAt xs a = some (e, a')) : a + 2 ≤ xs.length ∧ Tn.by' xs (a + 1) ≤ 32 ∧ a + 2 + Tn.by' xs (a + 1) + 32 ≤ xs.length ∧ a' = a + 2 + Tn.by' xs (a + 1) + 32 ∧ e = ⟨(xs.drop (a + 2)).take (Tn.by' xs (a + 1)), Tn.by' xs a, (xs.drop (a + 2 + Tn.by' xs (a + 1))).take 32⟩ := by
 unfold entAt at h
 split at h
 ·cases h
 ·split at h
  ·cases h
  ·rename_i h1 h2
   simp only [Option.some.injEq, Prod.mk.injEq] at h
   obtain ⟨rfl, rfl⟩ := h
   exact ⟨by omega, by omega, by omega, rfl, rfl⟩
theorem entAt_no {xs : List UInt8} {a : Nat} (h : entAt xs a = none) : xs.length < a + 2 ∨ 32 < Tn.by' xs (a + 1) ∨ xs.length < a + 2 + Tn.by' xs (a + 1) + 32 := by
 unfold entAt at h
 split at h
 ·left; assumption
 ·split at h
  ·right; assumption
  ·cases h
theorem upto_len2 {xs : List UInt8} : ∀ {k : Nat} {L : List Ent} {a : Nat}, 2 ≤ xs.length → upto xs 2 k = some (L, a) → a ≤ xs.length
 | 0, L, a, h2, h => by simp [upto] at h; omega
 | k + 1, L, a, h2, h => by
  simp only [upto, Option.bind_eq_some_iff, Option.map_eq_some_iff] at h
  obtain ⟨⟨L0, a0⟩, h1, ⟨e, a1⟩, h3, h4⟩ := h
  cases h4
  have := entAt_inv h3
  simp only at this
  omega
end Tn
theorem toldE_none {w w' : World} (h : Below w.heap.size w w') : ToldE w w' (.returned (.tuple #[.slice none 0 0, .int .i64 70])) none := ⟨⟨_, rfl, World.ownsRow_nil _ _ _ _, by simp⟩, h⟩
def half (e : Ent) (j : Nat) : Ent := ⟨e.name, e.kind, e.id.take j ++ List.replicate (32 - j) 0⟩
theorem half_cell {e : Ent} (he : e.id.length = 32) {j : Nat} (hj : j < 32) : (half e j).cells.toArray.setIfInBounds (2 + j) (.int .u8 (e.id.getD j 0).toNat) = (half e (j + 1)).cells.toArray := by
 have e1 : e.id.take (j + 1) = e.id.take j ++ [e.id.getD j 0] := by rw [List.take_succ_eq_append_getElem (by omega)]; simp [List.getElem?_eq_getElem (show j < e.id.length by omega)]
 simp only [half, Ent.cells, e1]
 apply Array.ext'
 simp only [Array.toList_setIfInBounds, show 2 + j = (j + 1) + 1 by omega, List.set_cons_succ]
 congr 2
 have hl : (e.id.take j).length = j := by simp; omega
 have e2 : List.replicate (32 - j) (0 : UInt8) = 0 :: List.replicate (32 - (j + 1)) 0 := by
  rw [show 32 - j = (32 - (j + 1)) + 1 by omega]; rfl
 rw [e2]
 simp only [bys, List.map_append, List.map_cons, List.append_assoc, List.singleton_append]
 rw [List.set_append_right _ _ (by simp; omega)]
 simp [hl]
 rw [show j - min j e.id.length = 0 by omega]
 rfl
theorem half_all {e : Ent} (he : e.id.length = 32) : half e 32 = e := by
 simp [half, List.take_of_length_le (show e.id.length ≤ 32 by omega)]
theorem half_none (e : Ent) : half e 0 = ⟨e.name, e.kind, List.replicate 32 0⟩ := by simp [half]
theorem half_ok {e : Ent} (h : EntOk e) (j : Nat) (hj : j ≤ 32) : EntOk (half e j) := by
 obtain ⟨h1, h2, h3⟩ := h
 exact ⟨by simp [half]; omega, h2, h3⟩
set_option maxHeartbeats 3200000 in
set_option maxRecDepth 100000 in
theorem refparse_main (b off n cap : Nat) (xs : List UInt8) (w : World) (hn : xs.length = n) (hm : n ≤ 140737488355328) (hc : n ≤ cap) (hb : b < w.heap.size) (hcell : ∀ i, i < xs.length → w.cell? ⟨b, off + i, none⟩ = some (.int .u8 (xs.getD i 0).toNat)) (h2 : 2 ≤ n) (h84 : Tn.by' xs 0 = 84) (h1 : Tn.by' xs 1 ≤ 32) :
  Calls Tryz.prog 41 #[.slice (some ⟨b, off, none⟩) n cap] w fun r w' => ToldE w w' r (Tn.parse xs) := by
 have c0 : w.cell? ⟨b, off, none⟩ = some (.int .u8 84) := by have := hcell 0 (by omega); rw [Nat.add_zero] at this; rw [this]; simp only [Tn.by'] at h84; rw [h84]; rfl
 have c1 : w.cell? ⟨b, off + 1, none⟩ = some (.int .u8 (Tn.by' xs 1)) := hcell 1 (by omega)
 have HX : Hid (xs.length = n) := hn
 have HC : Hid (b < w.heap.size ∧ ∀ i, i < xs.length → w.cell? ⟨b, off + i, none⟩ = some (.int .u8 (xs.getD i 0).toNat)) := ⟨hb, hcell⟩
 have HS : Hid (Tn.by' xs 0 = 84) := h84
 obtain ⟨c, hcc⟩ : ∃ c, Tn.by' xs 1 = c := ⟨_, rfl⟩
 have HCC := hide hcc
 rw [hcc] at c1 h1
 clear hn hb hcell h84 hcc
 have hz := Tryz.zeroEntry
 go_enter Tryz.func41, Tryz.ntmps41
 go_wp2
 clear c0
 have HC1 := hide c1
 clear c1
 go_loopw [4, 5, 6] (fun x y z wr => ∃ (a k : Nat) (L : List Ent) (bo : Option Addr) (bc : Nat), x = .int .i64 a ∧ y = .slice bo k bc ∧ z = .int .i64 k ∧ k ≤ c ∧ a ≤ n ∧ Hid (Tn.upto xs 2 k = some (L, a)) ∧ Hid (OwnE wr w.heap.size (.slice bo k bc) L) ∧ Hid (Below w.heap.size w wr)) (fun x y z wr => c - (intOf z).toNat)
 case atStart => exact ⟨2, 0, [], none, 0, rfl, rfl, rfl, Nat.zero_le _, h2, rfl, ⟨World.ownsRow_nil _ _ _ _, by simp⟩, Below.refl _ _⟩
 case round =>
  obtain ⟨a, k, L, bo, bc, rfl, rfl, rfl, hk, han, HU, HO, HB⟩ := hrel
  have c1 : wr.cell? ⟨b, off + 1, none⟩ = some (.int .u8 c) := (HB.out.cell HC.out.1).trans HC1.out
  by_cases hlt : k < c
  ·rcases hea : Tn.entAt xs a with _ | ⟨e, a'⟩
   ·have HP : Hid (Tn.parse xs = none) := by
     apply Tn.parse_fails
     intro L' a2 h'
     rw [HCC.out, Tn.upto_stop HU.out hea c hlt] at h'
     cases h'
    have hno := Tn.entAt_no hea
    rw [HX.out] at hno
    by_cases q1 : n < a + 2
    ·have HB2 := HB
     clear hno hea HU HO HC
     go_wp2
     go_ret2
     rw [HP.out]
     exact toldE_none HB2.out
    ·have c2 : wr.cell? ⟨b, off + (a + 1), none⟩ = some (.int .u8 (Tn.by' xs (a + 1))) := (HB.out.cell HC.out.1).trans (HC.out.2 (a + 1) (by rw [HX.out]; omega))
     have b2 := Tn.by_lt xs (a + 1)
     generalize Tn.by' xs (a + 1) = m at *
     clear hea HU HO
     by_cases q2 : 32 < m
     ·have q3 : (32 : Int) < (m : Int) := by omega
      go_wp2
      go_ret2
      rw [HP.out]
      exact toldE_none HB.out
     ·have q3 : ¬ (32 : Int) < (m : Int) := by omega
      have q4 : (n : Int) < (a : Int) + 2 + (m : Int) + 32 := by omega
      go_wp2
      go_ret2
      rw [HP.out]
      exact toldE_none HB.out
   ·obtain ⟨i1, i2, i3, rfl, he⟩ := Tn.entAt_inv hea
    rw [HX.out] at i1 i3
    have HEA := hide hea
    have HE := hide he
    have c2 : wr.cell? ⟨b, off + (a + 1), none⟩ = some (.int .u8 (Tn.by' xs (a + 1))) := (HB.out.cell HC.out.1).trans (HC.out.2 (a + 1) (by rw [HX.out]; omega))
    have b2 := Tn.by_lt xs (a + 1)
    have HOK : Hid (EntOk e) := (Tn.rd_some (p := 0) hea).2.2.2
    clear hea he
    generalize hmm : Tn.by' xs (a + 1) = m at *
    clear hmm
    have q1 : ¬ (n : Int) < (a : Int) + 2 := by omega
    have q2 : ¬ (32 : Int) < (m : Int) := by omega
    have q3 : ¬ (n : Int) < (a : Int) + 2 + (m : Int) + 32 := by omega
    go_upto_region 13 with (fail)
    have cA : ∀ i, i < xs.length → wr.cell? ⟨b, off + i, none⟩ = some (.int .u8 (xs.getD i 0).toNat) := fun i hi => (HB.out.cell HC.out.1).trans (HC.out.2 i hi)
    have HCA := hide cA
    obtain ⟨ao', hcut, hsl⟩ := Tryz.cutName b off n cap a m xs HX.out hc (by omega)
    have hcv := fun W h => conv_sl W (some ao') m (cap - (a + 2)) ((xs.drop (a + 2)).take m) (by have := HX.out; simp; omega) (hsl W h) (by simp)
    have ca : wr.cell? ⟨b, off + a, none⟩ = some (.int .u8 (Tn.by' xs a)) := cA a (by rw [HX.out]; omega)
    have ba := Tn.by_lt xs a
    have hw2 : IntKind.i64.wrap ((a : Int) + 2) = (a : Int) + 2 := by rw [IntKind.wrap_i64]; omega
    have hw3 : IntKind.i64.wrap ((a : Int) + 2 + (m : Int)) = (a : Int) + 2 + (m : Int) := by rw [IntKind.wrap_i64]; omega
    have hwk : IntKind.i64.wrap ((Tn.by' xs a : Nat) : Int) = ((Tn.by' xs a : Nat) : Int) := by rw [IntKind.wrap_i64]; omega
    have han1 : a < n := by omega
    have han2 : ((a : Nat) : Int) < (n : Int) := by omega
    have hbn := builtNK ⟨((xs.drop (a + 2)).take m).toArray⟩ ((Tn.by' xs a : Nat) : Int)
    have HEe : Hid (e.name = (xs.drop (a + 2)).take m ∧ e.kind = ((Tn.by' xs a : Nat) : Int) ∧ e.id = (xs.drop (a + 2 + m)).take 32) := by rw [HE.out]; exact ⟨rfl, rfl, rfl⟩
    have hh : (Value.string ⟨((xs.drop (a + 2)).take m).toArray⟩ :: Value.int .i64 ((Tn.by' xs a : Nat) : Int) :: bys (List.replicate 32 0)).toArray = (half e 0).cells.toArray := by
     rw [half_none, HEe.out.1, HEe.out.2.1]; rfl
    rw [hh] at hbn
    clear hh cA hsl HE
    refine wp_region_held_drew (S := fun w' => Kept [] wr w') (by kernel_rfl) ((Kept.refl [] wr).drew) (fun h0 => ?_)
    generalize World.drew wr = v0 at h0 ⊢
    refine wpAnyH_take (i := 0) (v := .slice (some ⟨b, off, none⟩) n cap) rfl (by kernel_rfl) (by kernel_rfl) (by kernel_rfl) (fun _ _ _ h => h) (Or.inl ⟨by rfl, fun W hSw => by go_simp⟩) h0 ?_
    try simp only [zk1, zk2, zk3, zk4, zk5, zk6, zk7, zk8]
    refine wpAnyH_take (i := 1) (v := .int .i64 a) rfl (by kernel_rfl) (by kernel_rfl) (by kernel_rfl) (fun _ _ _ h => h) (Or.inl ⟨by rfl, fun W hSw => by go_simp⟩) h0 ?_
    try simp only [zk1, zk2, zk3, zk4, zk5, zk6, zk7, zk8]
    refine wpAnyH_take (i := 2) (v := .int .i64 ((a : Int) + 2)) rfl (by kernel_rfl) (by kernel_rfl) (by kernel_rfl) (fun _ _ _ h => h) (Or.inl ⟨by rfl, fun W hSw => by go_simp⟩) h0 ?_
    try simp only [zk1, zk2, zk3, zk4, zk5, zk6, zk7, zk8]
    refine wpAnyH_take (i := 3) (v := .int .i64 a) rfl (by kernel_rfl) (by kernel_rfl) (by kernel_rfl) (fun _ _ _ h => h) (Or.inl ⟨by rfl, fun W hSw => by go_simp⟩) h0 ?_
    try simp only [zk1, zk2, zk3, zk4, zk5, zk6, zk7, zk8]
    refine wpAnyH_take (i := 4) (v := .int .i64 ((a : Int) + 2)) rfl (by kernel_rfl) (by kernel_rfl) (by kernel_rfl) (fun _ _ _ h => h) (Or.inl ⟨by rfl, fun W hSw => by go_simp⟩) h0 ?_
    try simp only [zk1, zk2, zk3, zk4, zk5, zk6, zk7, zk8]
    refine wpAnyH_take (i := 5) (v := .int .i64 m) rfl (by kernel_rfl) (by kernel_rfl) (by kernel_rfl) (fun _ _ _ h => h) (Or.inl ⟨by rfl, fun W hSw => by go_simp⟩) h0 ?_
    try simp only [zk1, zk2, zk3, zk4, zk5, zk6, zk7, zk8]
    refine wpAnyH_take (i := 6) (v := .int .i64 ((a : Int) + 2 + (m : Int))) rfl (by kernel_rfl) (by kernel_rfl) (by kernel_rfl) (fun _ _ _ h => h) (Or.inl ⟨by rfl, fun W hSw => by go_simp⟩) h0 ?_
    try simp only [zk1, zk2, zk3, zk4, zk5, zk6, zk7, zk8]
    refine wpAnyH_take (i := 7) (v := .slice (some ao') m (cap - (a + 2))) rfl (by kernel_rfl) (by kernel_rfl) (by kernel_rfl) (fun _ _ _ h => h) (Or.inl ⟨by rfl, fun W hSw => by have c := hcut W; go_simp⟩) h0 ?_
    try simp only [zk1, zk2, zk3, zk4, zk5, zk6, zk7, zk8]
    refine wpAnyH_take (i := 8) (v := .string ⟨((xs.drop (a + 2)).take m).toArray⟩) rfl (by kernel_rfl) (by kernel_rfl) (by kernel_rfl) (fun _ _ _ h => h) (Or.inl ⟨by rfl, fun W hSw => by have c := hcv W (fun i hi => hSw.cellOf (HCA.out i hi) (by simp)); go_simp⟩) h0 ?_
    try simp only [zk1, zk2, zk3, zk4, zk5, zk6, zk7, zk8]
    refine wpAnyH_take (i := 9) (v := .slice (some ⟨b, off, none⟩) n cap) rfl (by kernel_rfl) (by kernel_rfl) (by kernel_rfl) (fun _ _ _ h => h) (Or.inl ⟨by rfl, fun W hSw => by go_simp⟩) h0 ?_
    try simp only [zk1, zk2, zk3, zk4, zk5, zk6, zk7, zk8]
    refine wpAnyH_take (i := 10) (v := .int .i64 a) rfl (by kernel_rfl) (by kernel_rfl) (by kernel_rfl) (fun _ _ _ h => h) (Or.inl ⟨by rfl, fun W hSw => by go_simp⟩) h0 ?_
    try simp only [zk1, zk2, zk3, zk4, zk5, zk6, zk7, zk8]
    refine wpAnyH_take (i := 11) (v := .pointer (some ⟨b, off + a, none⟩)) rfl (by kernel_rfl) (by kernel_rfl) (by kernel_rfl) (fun _ _ _ h => h) (Or.inl ⟨by rfl, fun W hSw => by go_simp⟩) h0 ?_
    try simp only [zk1, zk2, zk3, zk4, zk5, zk6, zk7, zk8]
    refine wpAnyH_take (i := 12) (v := .int .u8 (Tn.by' xs a)) rfl (by kernel_rfl) (by kernel_rfl) (by kernel_rfl) (fun _ _ _ h => h) (Or.inl ⟨by rfl, fun W hSw => by have c := hSw.cellOf ca (by simp); go_simp⟩) h0 ?_
    try simp only [zk1, zk2, zk3, zk4, zk5, zk6, zk7, zk8]
    refine wpAnyH_take (i := 13) (v := .int .i64 ((Tn.by' xs a : Nat) : Int)) rfl (by kernel_rfl) (by kernel_rfl) (by kernel_rfl) (fun _ _ _ h => h) (Or.inl ⟨by rfl, fun W hSw => by go_simp⟩) h0 ?_
    try simp only [zk1, zk2, zk3, zk4, zk5, zk6, zk7, zk8]
    refine wpAnyH_take (i := 14) (v := .agg (half e 0).cells.toArray) rfl (by kernel_rfl) (by kernel_rfl) (by kernel_rfl) (fun _ _ _ h => h) (Or.inl ⟨by rfl, fun W hSw => yields_build 69 [(0, .tmp 65), (1, .tmp 70)] rfl [(0, .string ⟨((xs.drop (a + 2)).take m).toArray⟩), (1, .int .i64 ((Tn.by' xs a : Nat) : Int))] rfl _ hbn⟩) h0 ?_
    try simp only [zk1, zk2, zk3, zk4, zk5, zk6, zk7, zk8]
    refine wpAnyH_ready (rs := [15]) (by kernel_rfl) (by simp) (AllReadyH.cons (i := 15) rfl (fun K hK => ?_) AllReadyH.nil)
    rw [if_pos (by rfl)]
    go_simp
    refine hK.out _ _ (h0.alloc _) (fun h1 => ?_)
    clear hK K
    try simp only [zk1, zk2, zk3, zk4, zk5, zk6, zk7, zk8]
    have hnz := new_zero v0
    have hok0 := half_ok HOK.out 0 (by omega)
    refine wpAnyH_ready (rs := [16]) (by kernel_rfl) (by simp) (AllReadyH.cons (i := 16) rfl (fun K hK => ?_) AllReadyH.nil)
    rw [if_pos (by rfl)]
    refine wp_store_row 69 (.tmp 8) (.tmp 71) rfl v0.heap.size (half e 0).cells.toArray rfl rfl 69 zeroE hnz (by rw [ent_size hok0]; exact Tryz.infoEntry) (zero_size hok0) (ent_all _) ?_
    have kW : Kept [] v0 (withEnt v0 (half e 0)) := Kept.of_below (withEnt_below v0 (half e 0))
    have h3 : Kept [] wr (withEnt v0 (half e 0)) := h0.trans kW (by simp)
    refine hK.out _ _ h3 (fun _ => ?_)
    clear hK K h1
    try simp only [zk1, zk2, zk3, zk4, zk5, zk6, zk7, zk8]
    refine wpAnyH_done (by kernel_rfl) ?_ _
    have HR0 : Hid ((withEnt v0 (half e 0)).heap[v0.heap.size]? = some (.cells (half e 0).cells.toArray 69 (0, 0)) ∧ wr.heap.size ≤ v0.heap.size) := ⟨withEnt_row v0 _, h0.size⟩
    have HK0 := hide h3
    have hW : (v0.alloc (.cells zeroE 69)).setRow v0.heap.size (half e 0).cells.toArray = withEnt v0 (half e 0) := rfl
    rw [hW]
    clear h0 h3 kW hW hnz hok0 hcut hcv ca hbn
    generalize withEnt v0 (half e 0) = W0 at *
    obtain ⟨V, hV⟩ : ∃ V, v0.heap.size = V := ⟨_, rfl⟩
    rw [hV] at HR0 ⊢
    clear hV
    obtain ⟨wo, hwo⟩ : ∃ wo, wo = wr := ⟨_, rfl⟩
    subst hwo
    clear hw2 hw3 hwk han1 han2 c2
    go_wp2
    go_loopw [9] (fun x wr => ∃ j : Nat, j ≤ 32 ∧ x = .int .i64 j ∧ Hid (wr.heap[V]? = some (.cells (half e j).cells.toArray 69 (0, 0))) ∧ Hid (Kept [V] W0 wr)) (fun x wr => 32 - (intOf x).toNat)
    case atStart => exact ⟨0, by omega, rfl, HR0.out.1, Kept.refl _ _⟩
    case round =>
     obtain ⟨j, hj, rfl, HRj, HKj⟩ := hrel
     have HKW : Hid (Kept [V] wo wr) := (HK0.out.mono (by simp)).trans HKj.out (by simp)
     have hVw : wo.heap.size ≤ V := HR0.out.2
     have hbV : b ∉ [V] := by have := HC.out.1; have := HB.out.size; simp; omega
     by_cases hj3 : j < 32
     ·have cj : wr.cell? ⟨b, off + (a + 2 + m + j), none⟩ = some (.int .u8 (e.id.getD j 0).toNat) := by
       refine HKW.out.cellOf ?_ hbV
       have e4 : e.id.getD j 0 = xs.getD (a + 2 + m + j) 0 := by
        rw [HEe.out.2.2]
        simp [List.getD, List.getElem?_take, hj3, List.getElem?_drop]
       rw [e4]
       exact HCA.out _ (by rw [HX.out]; omega)
      have bj := UInt8.toNat_lt (e.id.getD j 0)
      have ce : ∃ x, wr.cell? ⟨V, 2 + j, none⟩ = some x := by
       rw [cell_of_row _ _ _ _ _ _ HRj.out]
       have := (half_ok HOK.out j hj).len
       rw [List.getElem?_toArray]
       exact ⟨_, List.getElem?_eq_getElem (show 2 + j < (half e j).cells.length by omega)⟩
      obtain ⟨x0, ce⟩ := ce
      have fe : wr.frozen? ⟨V, 2 + j, none⟩ = false := frozen_of_row _ _ _ _ _ HRj.out
      have HN : Hid ((wr.setCell ⟨V, 2 + j, none⟩ (.int .u8 (e.id.getD j 0).toNat)).heap[V]? = some (.cells (half e (j + 1)).cells.toArray 69 (0, 0)) ∧ Kept [V] W0 (wr.setCell ⟨V, 2 + j, none⟩ (.int .u8 (e.id.getD j 0).toNat))) := by
       refine ⟨?_, HKj.out.setCell (by simp) _⟩
       rw [heap_setCell_same wr _ (2 + j) _ _ _ HRj.out, half_cell HOK.out.idl hj3]
      generalize (e.id.getD j 0).toNat = y at *
      clear HRj HKj HKW
      go_wp2
      go_roundw
      case rel => exact ⟨j + 1, by omega, by go_num, HN.out.1, HN.out.2⟩
      case measure => simp [intOf]; omega
     ·obtain rfl : j = 32 := by omega
      have rr := HRj.out
      rw [half_all HOK.out.idl] at rr
      have hia : (Tryz.prog.info? 69).map (·.size) = some e.cells.toArray.size := by rw [ent_size HOK.out]; exact Tryz.infoEntry
      have hLk : L.length = k := Tn.upto_len HU.out
      have oV : OwnE wr w.heap.size (.slice bo k bc) L := HO.out.kept HKW.out (fun g hg => by have := HO.out.1.lt g hg; simp; omega)
      have bW : Below w.heap.size w wr := HB.out.trans (HKW.out.below HB.out.size (by have := HB.out.size; simp; omega))
      obtain ⟨v', W', hrun, o', kp', _⟩ := run_appE wr w.heap.size (.slice bo k bc) L e oV HOK.out (by omega) bW.size
      have bW' : Below w.heap.size w W' := bW.trans ((kp' (Value.ownBlock (.slice bo k bc)).toList (by simp)).below bW.size (fun g hg => (oV.1.lt g (by simpa using hg)).1))
      obtain ⟨bo', bc', hv', _⟩ := o'.ents
      rw [show (L ++ [e]).length = k + 1 by simp [hLk]] at hv'
      subst hv'
      have HO' := hide o'
      have HBW' := hide bW'
      have HU' : Hid (Tn.upto xs 2 (k + 1) = some (L ++ [e], a + 2 + m + 32)) := Tn.upto_next HU.out HEA.out
      have HRUN := hide hrun
      clear oV bW o' bW' kp' hrun HRj HKj HKW
      have hok := HOK.out
      go_wp2_with (first
       | refine wpList_load_row rfl 69 (.tmp 8) rfl V rfl 69 _ (0, 0) _ rr Tryz.underlying69 rfl hia ?_
       | refine wpList_build1 rfl (.tmp 89) rfl e rfl hok ?_
       | refine wpList_app_run rfl (.tmp 88) (.tmp 90) 70 70 rfl (.slice bo k bc) (.slice (some ⟨wr.heap.size, 0, none⟩) 1 1) rfl rfl _ _ HRUN.out ?_)
      go_roundw
      case rel => exact ⟨a + 2 + m + 32, k + 1, L ++ [e], bo', bc', by go_num, rfl, by go_num, by omega, by omega, HU', HO', HBW'⟩
      case measure => simp [intOf]; omega
  ·obtain rfl : k = c := by omega
   have hUc := HU.out
   have hLk : L.length = k := Tn.upto_len hUc
   have hke : k ≤ 32 := h1
   by_cases hq : a = n
   ·subst hq
    have hq2 : ((a : Int) != (a : Int)) = false := by simp
    obtain ⟨ao2, cap2, hv, _, hE, _⟩ := HO.out.ents
    rw [hLk] at hv
    injection hv with q1 q2 q3
    subst q1
    have his := is_ok bo k bc L wr hLk (by omega) hE
    have HL := hide hLk
    clear hLk hE q3 c1
    rcases ht : Tn.isTree L with _ | _
    ·have HP : Hid (Tn.parse xs = none) := by
      apply Tn.parse_fails
      intro L' a2 h'
      rw [HCC.out, hUc] at h'
      cases h'
      simp [ht]
     rw [ht] at his
     clear hUc ht
     have c1 : wr.cell? ⟨b, off + 1, none⟩ = some (.int .u8 k) := (HB.out.cell HC.out.1).trans HC1.out
     go_wp2_with (go_at_call 42; refine his.mono ?_; rintro r w5 ⟨rfl, hb5⟩)
     go_ret2
     rw [HP.out]
     exact toldE_none (HB.out.trans (hb5.mono HB.out.size))
    ·have HP : Hid (Tn.parse xs = some L) := Tn.parse_works HS.out (by rw [HCC.out]; exact h1) (by rw [HX.out]; exact h2) (by rw [HCC.out, HX.out]; exact hUc) ht
     rw [ht] at his
     clear hUc ht
     have c1 : wr.cell? ⟨b, off + 1, none⟩ = some (.int .u8 k) := (HB.out.cell HC.out.1).trans HC1.out
     go_wp2_with (go_at_call 42; refine his.mono ?_; rintro r w5 ⟨rfl, hb5⟩)
     go_ret2
     rw [HP.out]
     exact ⟨⟨_, rfl, HO.out.kept (Kept.of_below hb5) (by simp)⟩, HB.out.trans (hb5.mono HB.out.size)⟩
   ·have hq2 : ((a : Int) != (n : Int)) = true := by simp; omega
    have HP : Hid (Tn.parse xs = none) := by
     apply Tn.parse_fails
     intro L' a2 h'
     rw [HCC.out, hUc] at h'
     cases h'
     rw [HX.out]
     exact fun h => hq h.1
    clear hUc
    go_wp2
    go_ret2
    rw [HP.out]
    exact toldE_none HB.out
theorem refparse_ok (ao : Option Addr) (n cap : Nat) (xs : List UInt8) (w : World) (hn : xs.length = n) (hm : n ≤ 140737488355328) (hc : n ≤ cap) (hs : Sl w ao xs) :
  Calls Tryz.prog 41 #[.slice ao n cap] w fun r w' => ToldE w w' r (Tn.parse xs) := by
 by_cases hh : xs.length < 2 ∨ Tn.by' xs 0 ≠ 84 ∨ 32 < Tn.by' xs 1
 ·rw [Tn.parse_head hh]
  by_cases h2 : n < 2
  ·clear hs hh
   go_enter Tryz.func41, Tryz.ntmps41
   go_wp2
   go_ret2
   exact toldE_none (Below.refl _ _)
  ·obtain ⟨b, off, rfl, hb, hcell⟩ := hs.open (by rintro rfl; simp at hn; omega)
   have c0 : w.cell? ⟨b, off, none⟩ = some (.int .u8 (Tn.by' xs 0)) := by have := hcell 0 (by omega); rw [Nat.add_zero] at this; exact this
   have c1 : w.cell? ⟨b, off + 1, none⟩ = some (.int .u8 (Tn.by' xs 1)) := hcell 1 (by omega)
   have hh2 : Tn.by' xs 0 ≠ 84 ∨ 32 < Tn.by' xs 1 := hh.resolve_left (by omega)
   have b0 := Tn.by_lt xs 0
   have b1 := Tn.by_lt xs 1
   clear hs hcell hh
   generalize Tn.by' xs 0 = x0 at *
   generalize Tn.by' xs 1 = x1 at *
   by_cases h84 : x0 = 84
   ·subst h84
    have h32 : (32 : Int) < (x1 : Int) := by omega
    go_enter Tryz.func41, Tryz.ntmps41
    go_wp2
    go_ret2
    exact toldE_none (Below.refl _ _)
   ·have hne : ((x0 : Int) != 84) = true := by simp; omega
    go_enter Tryz.func41, Tryz.ntmps41
    go_wp2
    go_ret2
    exact toldE_none (Below.refl _ _)
 ·obtain ⟨b, off, rfl, hb, hcell⟩ := hs.open (by rintro rfl; simp at hh)
  exact refparse_main b off n cap xs w hn hm hc hb hcell (by omega) (by omega) (by omega)
end Go.Proofs.YtngaimahhgmciaaGreatDoor
