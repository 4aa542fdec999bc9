import Derived.Test.YtmklodligplbaabGreatDh2k
import Derived.OwnWalk
open Go.RowKit
set_option linter.unusedVariables false
set_option linter.unusedSimpArgs false
set_option maxRecDepth 100000
set_option maxHeartbeats 0
namespace Go.Proofs.YtmklodligplbaabGreat
section
def pw (bs : List UInt8) (t : Nat) : Nat -> Nat
 | 0 => 0
 | i + 1 => pw bs t i * 256 + (bs.getD (4 * t + i) 0).toNat
theorem pw_four (bs : List UInt8) (t : Nat) : pw bs t 4 = Sha.wordAt bs t := by
 simp only [pw, Sha.wordAt, Sha.word, Nat.add_zero]; omega
theorem pw_lt (bs : List UInt8) (t i : Nat) : pw bs t i < 256 ^ i := by
 induction i with
 | zero => simp [pw]
 | succ i ih =>
  have := (bs.getD (4 * t + i) 0).toNat_lt
  simp only [pw, Nat.pow_succ]; omega
theorem lay_zero (bs : List UInt8) : ∀ (t i : Nat), t <= i -> (Sha.lay bs t).getD i 0 = 0
 | 0, i, _ => by
  simp only [Sha.lay, List.getD_eq_getElem?_getD, List.getElem?_replicate]
  split <;> rfl
 | t + 1, i, h => by
  have ih := lay_zero bs t i (by omega)
  simp only [Sha.lay, List.getD_eq_getElem?_getD, List.getElem?_set, if_neg (show t ≠ i by omega)] at ih ⊢
  exact ih
theorem lay_set_zero (bs : List UInt8) (t : Nat) (h : t < 64) : (Sha.lay bs t).set t (pw bs t 0) = Sha.lay bs t := by
 apply List.ext_getElem
 ·simp
 ·intro i h1 h2
  rw [List.getElem_set]
  split
  ·rename_i e
   subst e
   have := lay_zero bs t t (Nat.le_refl _)
   simp only [List.getD_eq_getElem?_getD, List.getElem?_eq_getElem h2, Option.getD_some] at this
   rw [this]; rfl
  ·rfl
theorem lay_set_four (bs : List UInt8) (t : Nat) : (Sha.lay bs t).set t (pw bs t 4) = Sha.lay bs (t + 1) := by rw [pw_four]; rfl
theorem set_get (l : List Nat) (t v : Nat) (h : t < l.length) : (l.set t v).getD t 0 = v := by simp [h]
structure RT (w wr : World) (r S K V : Nat) (L A : List Nat) : Prop where
 res : wr.heap[r]? = some (.cells zero8 137 (0, 0))
 sta : wr.heap[S]? = some (.cells (wds L).toArray 137 (0, 0))
 tab : wr.heap[K]? = some (.cells (wds Sha.table).toArray 139 (0, 0))
 arr : wr.heap[V]? = some (.cells (wds A).toArray 139 (0, 0))
 llen : L.length = 8
 len : A.length = 64
 wds : Sha.Words A
 lwds : Sha.Words L
 below : Below w.heap.size w wr
 ps : w.heap.size <= S ∧ S < K ∧ K < r ∧ r < V
theorem RT.cellS {w wr : World} {r S K V : Nat} {L A : List Nat} (h : RT w wr r S K V L A) (i : Nat) (hi : i < 8) : wr.cell? ⟨S, i, none⟩ = some (.int .u32 (L.getD i 0 : Nat)) := by
 rw [cell_of_row _ _ _ _ _ _ h.sta, List.getElem?_toArray, wds_at (by rw [h.llen]; exact hi)]
theorem RT.cellV {w wr : World} {r S K V : Nat} {L A : List Nat} (h : RT w wr r S K V L A) (i : Nat) (hi : i < 64) : wr.cell? ⟨V, i, none⟩ = some (.int .u32 (A.getD i 0 : Nat)) := by
 rw [cell_of_row _ _ _ _ _ _ h.arr, List.getElem?_toArray, wds_at (by rw [h.len]; exact hi)]
theorem RT.cellK {w wr : World} {r S K V : Nat} {L A : List Nat} (h : RT w wr r S K V L A) (i : Nat) (hi : i < 64) : wr.cell? ⟨K, i, none⟩ = some (.int .u32 (Sha.tb i : Nat)) := by
 rw [cell_of_row _ _ _ _ _ _ h.tab, List.getElem?_toArray, wds_at (by exact hi)]; rfl
theorem RT.frozenV {w wr : World} {r S K V : Nat} {L A : List Nat} (h : RT w wr r S K V L A) (i : Nat) : wr.frozen? ⟨V, i, none⟩ = false := frozen_of_row _ _ _ _ _ h.arr
theorem RT.frozenS {w wr : World} {r S K V : Nat} {L A : List Nat} (h : RT w wr r S K V L A) (i : Nat) : wr.frozen? ⟨S, i, none⟩ = false := frozen_of_row _ _ _ _ _ h.sta
theorem RT.drewN {w wr : World} {r S K V : Nat} {L A : List Nat} (h : RT w wr r S K V L A) (n : Nat) : RT w (wr.drewN n) r S K V L A :=
 ⟨h.res, h.sta, h.tab, h.arr, h.llen, h.len, h.wds, h.lwds, ⟨h.below.os, h.below.tape, h.below.output, h.below.size, h.below.block⟩, h.ps⟩
theorem RT.drew {w wr : World} {r S K V : Nat} {L A : List Nat} (h : RT w wr r S K V L A) : RT w wr.drew r S K V L A := h.drewN 1
theorem RT.setV {w wr : World} {r S K V : Nat} {L A : List Nat} (h : RT w wr r S K V L A) (i v : Nat) (hv : v < 4294967296) : RT w (wr.setCell ⟨V, i, none⟩ (.int .u32 v)) r S K V L (A.set i v) := by
 have := h.ps
 refine ⟨by rw [heap_setCell_other _ _ _ _ (by show r ≠ V; omega)]; exact h.res, by rw [heap_setCell_other _ _ _ _ (by show S ≠ V; omega)]; exact h.sta, by rw [heap_setCell_other _ _ _ _ (by show K ≠ V; omega)]; exact h.tab, ?_, h.llen, by simp [h.len], h.wds.set i hv, h.lwds, ?_, h.ps⟩
 ·rw [heap_setCell_same _ _ _ _ _ _ h.arr, List.setIfInBounds_toArray, wds_set]
 ·exact ⟨h.below.os, h.below.tape, h.below.output, by rw [World.size_setCell]; exact h.below.size, fun k hk => (heap_setCell_other _ _ _ _ (by show k ≠ V; omega)).trans (h.below.block k hk)⟩
theorem RT.setS {w wr : World} {r S K V : Nat} {L A : List Nat} (h : RT w wr r S K V L A) (i v : Nat) (hv : v < 4294967296) : RT w (wr.setCell ⟨S, i, none⟩ (.int .u32 v)) r S K V (L.set i v) A := by
 have := h.ps
 refine ⟨by rw [heap_setCell_other _ _ _ _ (by show r ≠ S; omega)]; exact h.res, ?_, by rw [heap_setCell_other _ _ _ _ (by show K ≠ S; omega)]; exact h.tab, by rw [heap_setCell_other _ _ _ _ (by show V ≠ S; omega)]; exact h.arr, by simp [h.llen], h.len, h.wds, h.lwds.set i hv, ?_, h.ps⟩
 ·rw [heap_setCell_same _ _ _ _ _ _ h.sta, List.setIfInBounds_toArray, wds_set]
 ·exact ⟨h.below.os, h.below.tape, h.below.output, by rw [World.size_setCell]; exact h.below.size, fun k hk => (heap_setCell_other _ _ _ _ (by show k ≠ S; omega)).trans (h.below.block k hk)⟩
theorem RT.kept {w wr w2 : World} {r S K V : Nat} {L A : List Nat} {l : List Nat} (h : RT w wr r S K V L A) (hk : Kept l wr w2) (hl : ∀ i, i ∈ l -> V < i) : RT w w2 r S K V L A := by
 have hp := h.ps
 have lt : ∀ {i : Nat} {o : Obj}, wr.heap[i]? = some o -> i < wr.heap.size := fun e => (gs e).1
 have nm : ∀ i, i <= V -> i ∉ l := fun i hi hm => by have := hl i hm; omega
 exact ⟨(hk.block r (lt h.res) (nm r (by omega))).trans h.res, (hk.block S (lt h.sta) (nm S (by omega))).trans h.sta, (hk.block K (lt h.tab) (nm K (by omega))).trans h.tab, (hk.block V (lt h.arr) (nm V (by omega))).trans h.arr, h.llen, h.len, h.wds, h.lwds,
  h.below.trans (hk.below h.below.size (fun i hi => by have := hl i hi; omega)), hp⟩
theorem blocks4 (w : World) (o1 o2 o3 o4 : Obj) : ((((w.alloc o1).alloc o2).alloc o3).alloc o4).heap[w.heap.size]? = some o1 ∧ ((((w.alloc o1).alloc o2).alloc o3).alloc o4).heap[w.heap.size + 1]? = some o2 ∧ ((((w.alloc o1).alloc o2).alloc o3).alloc o4).heap[w.heap.size + 1 + 1]? = some o3 ∧ ((((w.alloc o1).alloc o2).alloc o3).alloc o4).heap[w.heap.size + 1 + 1 + 1]? = some o4 := by
 have e : ((((w.alloc o1).alloc o2).alloc o3).alloc o4).heap = (((w.heap.push o1).push o2).push o3).push o4 := rfl
 rw [e]
 refine ⟨?_, ?_, ?_, ?_⟩
 ·rw [Array.getElem?_push, if_neg (by simp <;> omega), Array.getElem?_push, if_neg (by simp <;> omega), Array.getElem?_push, if_neg (by simp), Array.getElem?_push, if_pos rfl]
 ·rw [Array.getElem?_push, if_neg (by simp <;> omega), Array.getElem?_push, if_neg (by simp), Array.getElem?_push, if_pos (by simp)]
 ·rw [Array.getElem?_push, if_neg (by simp), Array.getElem?_push, if_pos (by simp)]
 ·rw [Array.getElem?_push, if_pos (by simp)]
theorem rturn_ok (s : Sha.S8) (hs : s.Ok) (b o cap : Nat) (bs : List UInt8) (w : World) (hl : bs.length = 64) (hb : b < w.heap.size) (hc : ∀ i, i < 64 -> w.cell? ⟨b, o + i, none⟩ = some (.int .u8 (bs.getD i 0).toNat)) :
  Calls Tryz.prog 83 #[.agg (wds s.words).toArray, .slice (some ⟨b, o, none⟩) 64 cap, .agg (wds Sha.table).toArray] w fun e w' => e = .returned (.agg (wds (Sha.turn s bs).words).toArray) ∧ Below w.heap.size w w' := by
 have hz64 := Tryz.zeroW64
 have hz := Tryz.zeroW8
 obtain ⟨S, hS⟩ : ∃ S, S = w.heap.size := ⟨_, rfl⟩
 obtain ⟨K, hK⟩ : ∃ S, S = w.heap.size + 1 := ⟨_, rfl⟩
 obtain ⟨r, hr⟩ : ∃ r, r = w.heap.size + 1 + 1 := ⟨_, rfl⟩
 obtain ⟨V, hV⟩ : ∃ S, S = w.heap.size + 1 + 1 + 1 := ⟨_, rfl⟩
 have HI : Hid (RT w ((((w.alloc (.cells (wds s.words).toArray 137)).alloc (.cells (wds Sha.table).toArray 139)).alloc (.cells zero8 137)).alloc (.cells zero64 139)) r S K V s.words (Sha.lay bs 0)) := by
  subst hr; subst hS; subst hK; subst hV
  have h4 := blocks4 w (.cells (wds s.words).toArray 137) (.cells (wds Sha.table).toArray 139) (.cells zero8 137) (.cells zero64 139)
  refine ⟨h4.2.2.1, h4.1, h4.2.1, h4.2.2.2, rfl, rfl, Sha.lay_words bs 0, words_ok hs, ?_, by omega⟩
  ·exact ((((Below.refl _ _).alloc (Nat.le_refl _) _).alloc (by simp) _).alloc (by simp; omega) _).alloc (by simp; omega) _
 have HC : Hid (∀ i, i < 64 -> w.cell? ⟨b, o + i, none⟩ = some (.int .u8 (bs.getD i 0).toNat)) := hc
 have HB : Hid (b < w.heap.size) := hb
 clear hc hb
 go_enter Tryz.func83, Tryz.ntmps83
 go_wp2
 rw [<-hV, <-hr, <-hK, <-hS]
 clear hS hK hr hV
 generalize (((w.alloc _).alloc _).alloc _).alloc _ = w1 at HI ⊢
 go_loopw [8, 9] (fun x y wr => ∃ t : Nat, t <= 16 ∧ x = .int .i64 t ∧ Hid (RT w wr r S K V s.words (Sha.lay bs t))) (fun x y wr => 16 - (intOf x).toNat)
 case atStart => exact ⟨0, by omega, rfl, HI⟩
 case round =>
  clear HI
  obtain ⟨t, ht, rfl, HR⟩ := hrel
  by_cases hlt : t < 16
  ·have HR0 : Hid (RT w wr r S K V s.words ((Sha.lay bs t).set t (pw bs t 0))) := by
    show RT _ _ _ _ _ _ _ _
    rw [lay_set_zero bs t (by omega)]; exact HR.out
   clear HR
   have hd : decide ((t : Int) < 16) = true := by simp; omega
   go_wp2
   go_hide hQ
   go_loopw [9] (fun y wr => ∃ i : Nat, i <= 4 ∧ y = .int .i64 i ∧ Hid (RT w wr r S K V s.words ((Sha.lay bs t).set t (pw bs t i)))) (fun y wr => 4 - (intOf y).toNat)
   case atStart => exact ⟨0, by omega, rfl, HR0⟩
   case round =>
    clear HR0
    obtain ⟨i, hi, rfl, HR⟩ := hrel
    by_cases hli : i < 4
    ·obtain ⟨j, hj⟩ : ∃ j, j = 4 * t + i := ⟨_, rfl⟩
     obtain ⟨j4, hj4⟩ : ∃ j, j = 4 * t := ⟨_, rfl⟩
     have lj : (j : Int) < 64 := by omega
     have lt : (t : Int) < 64 := by omega
     have e1 : IntKind.i64.wrap (4 * (t : Int)) = j4 := by rw [IntWalk.i64_in _ (by omega)]; omega
     have e2 : IntKind.i64.wrap ((j4 : Int) + (i : Int)) = j := by rw [IntWalk.i64_in _ (by omega)]; omega
     have cb : wr.cell? ⟨b, o + j, none⟩ = some (.int .u8 (bs.getD j 0).toNat) := (HR.out.below.cell (p := ⟨b, o + j, none⟩) HB.out).trans (HC.out j (by omega))
     have ct := HR.out.cellV t (by omega)
     have ft := HR.out.frozenV t
     have hp : pw bs t i < 16777216 := by
      have h1 := pw_lt bs t i
      have h2 : 256 ^ i <= 256 ^ 3 := Nat.pow_le_pow_right (by omega) (by omega)
      omega
     have HP : Hid (pw bs t (i + 1) = pw bs t i * 256 + (bs.getD j 0).toNat) := by show _ = _; rw [hj]; rfl
     rw [set_get _ _ _ (by rw [Sha.lay_len]; omega)] at ct
     have HS : ∀ v : Nat, v < 4294967296 -> Hid (RT w (wr.drew.setCell ⟨V, t, none⟩ (.int .u32 v)) r S K V s.words ((Sha.lay bs t).set t v)) := fun v hv => by
      have := HR.out.drew.setV t v hv
      rwa [List.set_set] at this
     clear hj hj4
     have hby := (bs.getD j 0).toNat_lt
     generalize (bs.getD j 0).toNat = y at cb HP hby
     generalize pw bs t i = p at ct HP hp
     obtain ⟨m, hm⟩ : ∃ m, m = p * 256 := ⟨_, rfl⟩
     obtain ⟨n, hn⟩ : ∃ n, n = p * 256 + y := ⟨_, rfl⟩
     have s0 : IntKind.u32.wrap ((p : Int) * 256) = m := by rw [IntKind.wrap_u32']; omega
     have v0 := u32_in y (by omega)
     have o1 : bits .or .u32 (m : Int) (y : Int) = n := by
      have := or_join 8 p y (by omega) (by omega)
      rw [show 2 ^ 8 * p = m by omega] at this
      rw [this]; omega
     have HS2 : Hid (RT w (wr.drew.setCell ⟨V, t, none⟩ (.int .u32 n)) r S K V s.words ((Sha.lay bs t).set t (pw bs t (i + 1)))) := by
      have := HS n (by omega)
      rw [HP.out, <-hn]; exact this
     clear hm hn HS hby HP
     go_wp2
     go_still_tail 15, Tryz.followsD
     rw [World.drew_eq]
     go_wp2
     go_roundw
     case rel => first | exact ⟨i + 1, by omega, by go_num, HS2⟩ | ((repeat apply Exists.intro); exact ⟨⟨i + 1, by omega, by go_num, HS2⟩, rfl⟩)
     case measure => simp [intOf]; omega
    ·obtain rfl : i = 4 := by omega
     have HS2 : Hid (RT w wr r S K V s.words (Sha.lay bs (t + 1))) := by
      have := HR.out
      rw [lay_set_four] at this; exact this
     go_wp2
     subst hQ
     go_wp2
     go_roundw
     case rel => exact ⟨t + 1, by omega, by go_num, HS2⟩
     case measure => simp [intOf]; omega
  ·obtain rfl : t = 16 := by omega
   clear hlt ht HC hl HB
   go_wp2
   go_loopw [10, 11, 12] (fun x y z wr => ∃ t : Nat, 16 <= t ∧ t <= 64 ∧ x = .int .i64 t ∧ Hid (RT w wr r S K V s.words (Sha.more (Sha.lay bs 16) (t - 16)))) (fun x y z wr => 64 - (intOf x).toNat)
   case atStart => exact ⟨16, by omega, by omega, rfl, HR⟩
   case round =>
    clear HR
    obtain ⟨t, ht0, ht, rfl, HR⟩ := hrel
    by_cases hlt : t < 64
    ·obtain ⟨t2, h2⟩ : ∃ j, j = t - 2 := ⟨_, rfl⟩
     obtain ⟨t15, h15⟩ : ∃ j, j = t - 15 := ⟨_, rfl⟩
     obtain ⟨t7, h7⟩ : ∃ j, j = t - 7 := ⟨_, rfl⟩
     obtain ⟨t16, h16⟩ : ∃ j, j = t - 16 := ⟨_, rfl⟩
     have i2 : (t : Int) - 2 = t2 := by omega
     have i15 : (t : Int) - 15 = t15 := by omega
     have e7 : IntKind.i64.wrap ((t : Int) - 7) = t7 := by rw [IntWalk.i64_in _ (by omega)]; omega
     have e16 : IntKind.i64.wrap ((t : Int) - 16) = t16 := by rw [IntWalk.i64_in _ (by omega)]; omega
     have l2 : (t2 : Int) < 64 := by omega
     have l15 : (t15 : Int) < 64 := by omega
     have l7 : (t7 : Int) < 64 := by omega
     have l16 : (t16 : Int) < 64 := by omega
     have lt : (t : Int) < 64 := by omega
     have n7 : t7 ≠ t := by omega
     have n16 : t16 ≠ t := by omega
     have c2 := HR.out.cellV t2 (by omega)
     have c15 := HR.out.cellV t15 (by omega)
     have c7 := HR.out.cellV t7 (by omega)
     have c16 := HR.out.cellV t16 (by omega)
     have ct := HR.out.cellV t (by omega)
     have ft := HR.out.frozenV t
     have hW := HR.out.wds
     have b2 := hW t2
     have b15 := hW t15
     have b7 := hW t7
     have b16 := hW t16
     have HM : Hid (Sha.more (Sha.lay bs 16) (t + 1 - 16) = (Sha.more (Sha.lay bs 16) (t - 16)).set t (Sha.grow ((Sha.more (Sha.lay bs 16) (t - 16)).getD t2 0) ((Sha.more (Sha.lay bs 16) (t - 16)).getD t7 0) ((Sha.more (Sha.lay bs 16) (t - 16)).getD t15 0) ((Sha.more (Sha.lay bs 16) (t - 16)).getD t16 0))) := by
      show _ = _
      rw [show t + 1 - 16 = (t - 16) + 1 by omega]
      simp only [Sha.more]
      rw [show 16 + (t - 16) = t by omega, show 14 + (t - 16) = t2 by omega, show 9 + (t - 16) = t7 by omega, show 1 + (t - 16) = t15 by omega, show t - 16 = t16 by omega]
     clear h2 h15 h7 h16 hW
     generalize (Sha.more (Sha.lay bs 16) (t - 16)).getD t2 0 = p at c2 b2 HM
     generalize (Sha.more (Sha.lay bs 16) (t - 16)).getD t15 0 = q at c15 b15 HM
     generalize (Sha.more (Sha.lay bs 16) (t - 16)).getD t7 0 = g at c7 b7 HM
     generalize (Sha.more (Sha.lay bs 16) (t - 16)).getD t16 0 = v at c16 b16 HM
     generalize (Sha.more (Sha.lay bs 16) (t - 16)).getD t 0 = old at ct
     go_wp2
     clear i2 i15 c2 c15
     have q1 := late_bits b2
     have q2 := early_bits b15
     have q3 := u32_add
     go_region_held3 (fun w' => w'.cell? ⟨V, t7, none⟩ = some (.int .u32 g) ∧ w'.cell? ⟨V, t16, none⟩ = some (.int .u32 v)) (first | (simp [*]; done) | (refine ⟨?_, ?_⟩ <;> (rw [World.cell?_setCell_other _ _ _ _ (by intro e; injection e; omega)]; simp [*]))) (first | (go_at_call_of 108 (Value.int IntKind.i64 17); refine (rturned_ok p 17 _ b2 (by omega) (by omega)).mono ?_; rintro e w' ⟨rfl, n1, rfl⟩) | (go_at_call_of 108 (Value.int IntKind.i64 19); refine (rturned_ok p 19 _ b2 (by omega) (by omega)).mono ?_; rintro e w' ⟨rfl, n2, rfl⟩) | (go_at_call_of 108 (Value.int IntKind.i64 7); refine (rturned_ok q 7 _ b15 (by omega) (by omega)).mono ?_; rintro e w' ⟨rfl, n3, rfl⟩) | (go_at_call_of 108 (Value.int IntKind.i64 18); refine (rturned_ok q 18 _ b15 (by omega) (by omega)).mono ?_; rintro e w' ⟨rfl, n4, rfl⟩))
     have HS : Hid (RT w ((wr.drewN (1 + n1 + n2 + n3 + n4)).setCell ⟨V, t, none⟩ (.int .u32 (Sha.add (Sha.add (Sha.add (Sha.late p) g) (Sha.early q)) v : Nat))) r S K V s.words (Sha.more (Sha.lay bs 16) (t + 1 - 16))) := by
      have := (HR.out.drewN (1 + n1 + n2 + n3 + n4)).setV t (Sha.grow p g q v) (Sha.grow_lt _ _ _ _)
      show RT _ _ _ _ _ _ _ _
      rw [HM.out]; exact this
     go_wp2
     go_roundw
     case rel => first | exact ⟨t + 1, by omega, by omega, by go_num, HS⟩ | ((repeat apply Exists.intro); exact ⟨⟨t + 1, by omega, by omega, by go_num, HS⟩, rfl⟩)
     case measure => simp [intOf]; omega
    ·obtain rfl : t = 64 := by omega
     have HW : Hid (RT w wr r S K V s.words (Sha.spread bs)) := HR.out
     clear HR hlt ht ht0
     obtain ⟨Z, hZ⟩ : ∃ Z, Z = wr.heap.size := ⟨_, rfl⟩
     have h1 := HW.out.sta
     have hz0 : (wr.alloc (.cells zero8 137)).heap[wr.heap.size]? = some (.cells zero8 137 (0, 0)) := heap_alloc_new _ _
     have HW2 : Hid (RT w ((wr.alloc (.cells zero8 137)).setRow wr.heap.size (wds s.words).toArray) r S K V s.words (Sha.spread bs)) := by
      refine HW.out.kept (l := [wr.heap.size]) ?_ (fun i hi => ?_)
      ·exact ((Kept.refl _ _).alloc _).trans (l2 := [wr.heap.size]) ⟨rfl, rfl, rfl, by simp, fun k _ hn => setRow_other _ _ _ _ (by simpa using hn)⟩ (by simp)
      ·simp only [List.mem_singleton] at hi
       subst hi
       exact (gs HW.out.arr).1
     have HZ : Hid (V < Z) := by rw [hZ]; exact (gs HW.out.arr).1
     have HQ0 : Hid (((wr.alloc (.cells zero8 137)).setRow wr.heap.size (wds s.words).toArray).heap[Z]? = some (.cells (wds s.words).toArray 137 (0, 0))) := by
      show _ = _
      rw [hZ]; exact setRow_heap _ _ _ _ _ _ hz0
     go_wp2_with (first | refine wpList_load_row rfl 137 (.tmp 3) rfl S rfl 137 _ (0, 0) _ h1 Tryz.underlying137 rfl Tryz.info8 ?_ | refine wpList_store_rowTo rfl 137 (.tmp 13) (.tmp 84) rfl rfl wr.heap.size (wds s.words).toArray rfl rfl 137 zero8 hz0 Tryz.info8 (by kernel_rfl) (by kernel_rfl) ?_)
     rw [<-hZ] at HW2 HQ0 ⊢
     clear hZ h1 hz0 HW
     generalize World.setRow _ _ _ = w5 at HW2 HQ0 ⊢
     have hsp := Sha.spread_words bs
     have hspl := Sha.spread_len bs
     have HT : Hid (Sha.turn s bs = Sha.plus s (Sha.rounds (Sha.spread bs) s 64)) := rfl
     generalize Sha.spread bs = W at hsp hspl HW2 HT
     clear hz64 hz
     go_loopw [14, 15, 16, 17, 18] (fun i _ _ _ _ wr => ∃ (t : Nat) (q : Sha.S8), t <= 64 ∧ i = .int .i64 t ∧ Hid (q = Sha.rounds W s t) ∧ Hid (RT w wr r S K V s.words W) ∧ Hid (wr.heap[Z]? = some (.cells (wds q.words).toArray 137 (0, 0)))) (fun i _ _ _ _ wr => 64 - (intOf i).toNat)
     case atStart => exact ⟨0, s, by omega, rfl, rfl, HW2, HQ0⟩
     case round =>
      clear HW2 HQ0
      obtain ⟨t, q, ht, rfl, HQ, HR, HZ1⟩ := hrel
      by_cases hlt : t < 64
      ·have hq : q.Ok := by rw [HQ.out]; exact Sha.rounds_ok hs W t
       have HN : Hid (Sha.rounds W s (t + 1) = Sha.rnd q (Sha.tb t) (W.getD t 0)) := by
        show _ = _
        rw [HQ.out]; rfl
       have ck := HR.out.cellK t hlt
       have cv := HR.out.cellV t hlt
       have lt : (t : Int) < 64 := by omega
       generalize Sha.tb t = kt at ck HN
       generalize W.getD t 0 = vt at cv HN
       have zc : ∀ i, wr.cell? ⟨Z, i, none⟩ = (wds q.words)[i]? := fun i => by rw [cell_of_row _ _ _ _ _ _ HZ1.out]; simp
       obtain ⟨qa, qb, qc, qd, qe, qf, qg, qh⟩ := q
       obtain ⟨ha, hb', hc, hd, he, hf, hg, hh⟩ := hq
       dsimp only at ha hb' hc hd he hf hg hh
       have z0 : wr.cell? ⟨Z, 0, none⟩ = some (.int .u32 qa) := zc 0
       have z1 : wr.cell? ⟨Z, 1, none⟩ = some (.int .u32 qb) := zc 1
       have z2 : wr.cell? ⟨Z, 2, none⟩ = some (.int .u32 qc) := zc 2
       have z3 : wr.cell? ⟨Z, 3, none⟩ = some (.int .u32 qd) := zc 3
       have z4 : wr.cell? ⟨Z, 4, none⟩ = some (.int .u32 qe) := zc 4
       have z5 : wr.cell? ⟨Z, 5, none⟩ = some (.int .u32 qf) := zc 5
       have z6 : wr.cell? ⟨Z, 6, none⟩ = some (.int .u32 qg) := zc 6
       have z7 : wr.cell? ⟨Z, 7, none⟩ = some (.int .u32 qh) := zc 7
       clear zc
       have q1 := big1_bits he
       have q2 := ch_bits he hf hg
       have q3 := u32_add
       have q4 := big0_bits ha
       have q5 := maj_bits ha hb' hc
       have q6 := u32_add_mod
       have hsg : IntKind.u32.signed = false := rfl
       go_wp2
       go_quiet (first | (go_at_call_of 108 (Value.int IntKind.i64 6); exact Calls.quiet_of (rturned_ok qe 6 _ he (by omega) (by omega))) | (go_at_call_of 108 (Value.int IntKind.i64 11); exact Calls.quiet_of (rturned_ok qe 11 _ he (by omega) (by omega))) | (go_at_call_of 108 (Value.int IntKind.i64 25); exact Calls.quiet_of (rturned_ok qe 25 _ he (by omega) (by omega))))
       have HR2 : Hid (RT w (wr.drewN nq) r S K V s.words W) := HR.out.drewN nq
       have HZ2 : Hid ((wr.drewN nq).heap[Z]? = _) := HZ1.out
       have y0 : (wr.drewN nq).cell? ⟨Z, 0, none⟩ = _ := z0
       have y1 : (wr.drewN nq).cell? ⟨Z, 1, none⟩ = _ := z1
       have y2 : (wr.drewN nq).cell? ⟨Z, 2, none⟩ = _ := z2
       have y3 : (wr.drewN nq).cell? ⟨Z, 3, none⟩ = _ := z3
       have y4 : (wr.drewN nq).cell? ⟨Z, 4, none⟩ = _ := z4
       have y5 : (wr.drewN nq).cell? ⟨Z, 5, none⟩ = _ := z5
       have y6 : (wr.drewN nq).cell? ⟨Z, 6, none⟩ = _ := z6
       have y7 : (wr.drewN nq).cell? ⟨Z, 7, none⟩ = _ := z7
       clear HR HZ1 ck cv z0 z1 z2 z3 z4 z5 z6 z7 q1 q2
       generalize wr.drewN nq = w6 at HR2 HZ2 y0 y1 y2 y3 y4 y5 y6 y7 ⊢
       go_wp2
       go_quiet (first | (go_at_call_of 108 (Value.int IntKind.i64 2); exact Calls.quiet_of (rturned_ok qa 2 _ ha (by omega) (by omega))) | (go_at_call_of 108 (Value.int IntKind.i64 13); exact Calls.quiet_of (rturned_ok qa 13 _ ha (by omega) (by omega))) | (go_at_call_of 108 (Value.int IntKind.i64 22); exact Calls.quiet_of (rturned_ok qa 22 _ ha (by omega) (by omega))))
       have HR3 : Hid (RT w (w6.drewN nq) r S K V s.words W) := HR2.out.drewN nq
       have HZ3 : Hid ((w6.drewN nq).heap[Z]? = _) := HZ2.out
       have x0 : (w6.drewN nq).cell? ⟨Z, 0, none⟩ = _ := y0
       have x1 : (w6.drewN nq).cell? ⟨Z, 1, none⟩ = _ := y1
       have x2 : (w6.drewN nq).cell? ⟨Z, 2, none⟩ = _ := y2
       have x3 : (w6.drewN nq).cell? ⟨Z, 3, none⟩ = _ := y3
       have x4 : (w6.drewN nq).cell? ⟨Z, 4, none⟩ = _ := y4
       have x5 : (w6.drewN nq).cell? ⟨Z, 5, none⟩ = _ := y5
       have x6 : (w6.drewN nq).cell? ⟨Z, 6, none⟩ = _ := y6
       have x7 : (w6.drewN nq).cell? ⟨Z, 7, none⟩ = _ := y7
       clear HR2 HZ2 y0 y1 y2 y3 y4 y5 y6 y7 q4 q5
       generalize w6.drewN nq = w7 at HR3 HZ3 x0 x1 x2 x3 x4 x5 x6 x7 ⊢
       have HX : Hid (Sha.add (Sha.add (Sha.add (Sha.add qh (Sha.big1 qe)) (Sha.ch qe qf qg)) kt) vt = Sha.xs qh qe qf qg kt vt) := rfl
       have HY : Hid (Sha.add (Sha.big0 qa) (Sha.maj qa qb qc) = Sha.ys qa qb qc) := rfl
       generalize Sha.add (Sha.add (Sha.add (Sha.add qh (Sha.big1 qe)) (Sha.ch qe qf qg)) kt) vt = X at HX ⊢
       generalize Sha.add (Sha.big0 qa) (Sha.maj qa qb qc) = Y at HY ⊢
       have HN2 : Hid (Sha.rounds W s (t + 1) = ⟨Sha.add X Y, qa, qb, qc, Sha.add qd X, qe, qf, qg⟩) := by
        show _ = _
        rw [HN.out, HX.out, HY.out]; rfl
       have hold := HZ3.out
       have hone : (wds [Sha.add X Y, qa, qb, qc, Sha.add qd X, qe, qf, qg]).toArray.all (·.oneCell') = true := Array.all_eq_true_iff_forall_mem.2 fun v hv => wds_oneCell _ v (by simpa using hv)
       have HR4 : Hid (RT w (w7.setRow Z (wds [Sha.add X Y, qa, qb, qc, Sha.add qd X, qe, qf, qg]).toArray) r S K V s.words W) :=
        HR3.out.kept (l := [Z]) ⟨rfl, rfl, rfl, by simp, fun k _ hn => setRow_other _ _ _ _ (by simpa using hn)⟩ (by simpa using HZ.out)
       have HZ4 : Hid ((w7.setRow Z (wds [Sha.add X Y, qa, qb, qc, Sha.add qd X, qe, qf, qg]).toArray).heap[Z]? = some (.cells (wds [Sha.add X Y, qa, qb, qc, Sha.add qd X, qe, qf, qg]).toArray 137 (0, 0))) := setRow_heap _ _ _ _ _ _ HZ3.out
       go_wp2_with (first | refine wpList_buildTo rfl 137 _ rfl (some 166) rfl (wds [Sha.add X Y, qa, qb, qc, Sha.add qd X, qe, qf, qg]).toArray (by kernel_rfl) ?_ | refine wpList_store_rowTo rfl 137 (.tmp 13) (.tmp 166) rfl rfl Z (wds [Sha.add X Y, qa, qb, qc, Sha.add qd X, qe, qf, qg]).toArray rfl rfl 137 _ hold Tryz.info8 rfl hone ?_)
       go_roundw
       case rel => exact ⟨t + 1, _, by omega, by go_num, HN2.out.symm, HR4, HZ4⟩
       case measure => simp [intOf]; omega
      ·obtain rfl : t = 64 := by omega
       have hq : q.Ok := by rw [HQ.out]; exact Sha.rounds_ok hs W 64
       have HF5 : Hid (RT w wr r S K V (summed s.words q.words 0) W) := HR.out
       have HT2 : Hid (Sha.turn s bs = Sha.plus s q) := by rw [HQ.out]; exact HT.out
       clear HR HT HQ hlt ht
       go_wp2
       go_loopw [19] (fun i wr => ∃ k : Nat, k <= 8 ∧ i = .int .i64 k ∧ Hid (RT w wr r S K V (summed s.words q.words k) W) ∧ Hid (wr.heap[Z]? = some (.cells (wds q.words).toArray 137 (0, 0)))) (fun i wr => 8 - (intOf i).toNat)
       case atStart => exact ⟨0, by omega, rfl, HF5, HZ1⟩
       case round =>
        clear HF5 HZ1
        obtain ⟨k, hk, rfl, HR, HZ1⟩ := hrel
        by_cases hlt : k < 8
        ·have ck := HR.out.cellS k hlt
         have fk := HR.out.frozenS k
         have zk : wr.cell? ⟨Z, k, none⟩ = some (.int .u32 (q.words.getD k 0 : Nat)) := by rw [cell_of_row _ _ _ _ _ _ HZ1.out, List.getElem?_toArray, wds_at (by exact hlt)]
         have lt : (k : Int) < 8 := by omega
         have HN : Hid (RT w (wr.drew.setCell ⟨S, k, none⟩ (.int .u32 (Sha.add ((summed s.words q.words k).getD k 0) (q.words.getD k 0) : Nat))) r S K V (summed s.words q.words (k + 1)) W) :=
          HR.out.drew.setS k _ (Sha.add_lt _ _)
         have HZ2 : ∀ v, Hid ((wr.drew.setCell ⟨S, k, none⟩ v).heap[Z]? = some (.cells (wds q.words).toArray 137 (0, 0))) := fun v => by
          have := HR.out.ps; have := HZ.out
          show _ = _
          rw [heap_setCell_other _ _ _ _ (by show Z ≠ S; omega)]; exact HZ1.out
         generalize (summed s.words q.words k).getD k 0 = x at ck HN
         generalize q.words.getD k 0 = y at zk HN
         have q3 := u32_add
         clear HZ1 HR
         go_wp2
         go_still_tail 9, Tryz.followsD
         rw [World.drew_eq]
         go_wp2
         go_roundw
         case rel => first | exact ⟨k + 1, by omega, by go_num, HN, HZ2 _⟩ | ((repeat apply Exists.intro); exact ⟨⟨k + 1, by omega, by go_num, HN, HZ2 _⟩, rfl⟩)
         case measure => simp [intOf]; omega
        ·obtain rfl : k = 8 := by omega
         have h1 := HR.out.sta
         have h2 := HR.out.res
         have hlen : (wds (summed s.words q.words 8)).toArray.size = 8 := by simp [wds_len, HR.out.llen]
         have hinf : (Tryz.prog.info? 137).map (·.size) = some (wds (summed s.words q.words 8)).toArray.size := by rw [hlen]; exact Tryz.info8
         have hone : (wds (summed s.words q.words 8)).toArray.all (·.oneCell') = true := Array.all_eq_true_iff_forall_mem.2 fun v hv => wds_oneCell _ v (by simpa using hv)
         have hz0 : zero8.size = (wds (summed s.words q.words 8)).toArray.size := by rw [hlen]; rfl
         have HFIN : Hid (summed s.words q.words 8 = (Sha.turn s bs).words) := by
          show _ = _
          rw [HT2.out, summed_all]
         generalize summed s.words q.words 8 = F at h1 hlen hinf hone hz0 HFIN HR
         go_wp2_with (first | refine wpList_load_row rfl 137 (.tmp 3) rfl S rfl 137 _ (0, 0) _ h1 Tryz.underlying137 rfl hinf ?_ | refine wpList_store_rowTo rfl 137 (.tmp 6) (.tmp 180) rfl rfl r (wds F).toArray rfl rfl 137 zero8 h2 hinf hz0 hone ?_)
         exact ret_row rfl rfl r 137 _ (0, 0) _ rfl (setRow_heap _ _ _ _ _ _ h2) Tryz.underlying137 rfl hinf ⟨by rw [HFIN.out], below_row HR.out.below (by have := HR.out.ps; omega) _⟩
end

section
theorem src_of {w : World} {ad : Addr} {m : List UInt8} (hs : Sl w (some ad) m) : ∀ j u, (bys m)[j]? = some u -> w.cell? (ad.add j) = some u := by
 by_cases h0 : m = []
 ·subst h0
  intro j u hu
  simp [bys] at hu
 ·obtain ⟨b, off, e', hb, hc⟩ := hs.open h0
  cases e'
  exact Sl.cells hc
theorem wpList_append_fresh (w : World) {ops : Array Oper} {rest : List Oper} {o : Oper} {a : Act} {Q : Exit -> Act -> World -> Prop} (hgd : o.guard = none) (s x : Operand)
  (ho : o.op = .call { callee := .builtin .append, args := #[s, x], argTypes := #[27, 27] }) (base g : Nat) (hs : a.eval s = .slice (some ⟨g, 0, none⟩) 0 0)
  (hown : w.ownsRow base 5 1 (.slice (some ⟨g, 0, none⟩) 0 0) 0 []) (da : Option Addr) (m dc : Nat) (ds : List UInt8) (hx : a.eval x = .slice da m dc) (hsl : Sl w da ds) (hm : ds.length = m) (hnl : da = none -> ds = [] ∧ dc = 0) (b1 : m <= 140737488351232) (hbase : base <= w.heap.size)
  (hK : ∀ g' c' w', w'.ownsRow base 5 1 (.slice (some ⟨g', 0, none⟩) m c') m (bys ds) -> w.grownBy w' (some g) -> wpList Tryz.prog ops Q rest (a.put o.dst (.slice (some ⟨g', 0, none⟩) m c')) w') :
  wpList Tryz.prog ops Q (o :: rest) a w := by
 obtain ⟨i0, hi, hz0, hz1, hz2⟩ := info_parts Tryz.infoByteD
 cases da with
 | none =>
  obtain ⟨rfl, rfl⟩ := hnl rfl
  subst hm
  exact wpList_append_own_none hgd s x 27 ho base 5 i0 1 Tryz.underlying27 hi _ 0 _ hs hown hx (hK g 0 w hown (World.grownBy.refl w _))
 | some ad =>
  refine wpList_append_own w hgd s x 27 ho base 5 i0 (.int .u8 0) 1 1 Tryz.underlying27 hi hz0 hz1 hz2 rfl (by decide) _ 0 [] hs hown ad m dc (bys ds) hx (by rw [bys_length, hm, Nat.mul_one]) (src_of hsl) (bys_oneCell _) (by unfold maxLen; omega) (by omega) hbase ?_
  intro v' w' h1 h2 h3
  rw [Nat.zero_add, List.nil_append] at h1
  obtain ⟨g', c', hv, _⟩ := own_sl h1 (fun e => by have := (h3.1 e).1; cases this)
  subst hv
  exact hK g' c' w' h1 h2
end

section
theorem one_cells (w : World) (c : Value) (t : TypeId) (fr : Nat × Nat) : ∀ (j : Nat) (u : Value), [c][j]? = some u -> (w.alloc (.cells #[c] t fr)).cell? ((⟨w.heap.size, 0, none⟩ : Addr).add j) = some u := by
 intro j u hu
 cases j with
 | zero =>
  simp at hu
  subst hu
  rw [Addr.add_mid, Nat.zero_add, World.cell?_alloc_mark]
  simp
 | succ j => simp at hu
theorem one_cells_at (w : World) (c : Value) (t : TypeId) (fr : Nat × Nat) (g : Nat) (hg : g = w.heap.size) : ∀ (j : Nat) (u : Value), [c][j]? = some u -> (w.alloc (.cells #[c] t fr)).cell? ((⟨g, 0, none⟩ : Addr).add j) = some u := by
 subst hg
 exact one_cells w c t fr
theorem bys_one (c : UInt8) (n : Int) (h : n = (c.toNat : Int)) : [Value.int .u8 n] = bys [c] := by rw [h]; rfl
structure Grow (w wr : World) (v : Value) (ys : List UInt8) : Prop where
 own : wr.ownsRow w.heap.size 5 1 v ys.length (bys ys)
 kept : Kept [] w wr
theorem Grow.shape {w wr : World} {v : Value} {ys : List UInt8} (h : Grow w wr v ys) (hn : v ≠ .slice none 0 0) : ∃ g cap, v = .slice (some ⟨g, 0, none⟩) ys.length cap ∧ w.heap.size <= g ∧ g < wr.heap.size ∧ ys.length <= cap ∧ Sl wr (some ⟨g, 0, none⟩) ys := own_sl h.own hn
theorem Grow.one {w wr w1 : World} {v v' : Value} {ys : List UInt8} {o : Obj} {c : UInt8} {n : Int} (h : Grow w wr v ys) (hn : n = (c.toNat : Int))
  (hown : w1.ownsRow w.heap.size 5 1 v' (ys.length + 1) (bys ys ++ [.int .u8 n])) (hgrow : (wr.alloc o).grownBy w1 v.ownBlock) : Grow w w1 v' (ys ++ [c]) := by
 refine ⟨?_, (h.kept.alloc _).grown hgrow (fun k hk hlt => by have := (h.own.lt k hk).1; omega)⟩
 rw [bys_one c n hn, <-bys_append] at hown
 simpa using hown
theorem zeros_more (m n j : Nat) (hs : 9 <= n ∧ n <= 72 ∧ (m + n) % 64 = 0) (hj : j <= n - 9) : (m + 1 + j) % 64 = 56 ↔ j = n - 9 := by omega
theorem be8_get (N j : Nat) (hj : j < 8) : (Sha.be8 N).take (j + 1) = (Sha.be8 N).take j ++ [UInt8.ofNat (N / 256 ^ (7 - j) % 256)] := by
 rw [List.take_succ_eq_append_getElem (by rw [Sha.be8_len]; exact hj)]
 simp [Sha.be8]
theorem row_any (ao : Option Addr) (cap : Nat) (m : List UInt8) (w : World) (hs : Sl w ao m) (hnl : ao = none -> m = [] ∧ cap = 0) (hlen : m.length <= 140737488351232) (n : Nat) (hn : m.length = n) :
  Calls Tryz.prog 82 #[.slice ao n cap] w fun e w' => ∃ g c, e = .returned (.slice (some ⟨g, 0, none⟩) (n + Sha.size n) c) ∧ w.heap.size <= g ∧ g < w'.heap.size ∧ n + Sha.size n <= c ∧ Sl w' (some ⟨g, 0, none⟩) (m ++ Sha.ending n) ∧ Below w.heap.size w w' := by
 obtain ⟨i0, hi, hz0, hz1, hz2⟩ := info_parts Tryz.infoByteD
 have HN : Hid (m.length = n) := hn
 rw [hn] at hlen
 have hsrc : Hid (Sl (w.alloc (.cells #[] 5)) ao m) := hs.kept ((Kept.refl [] w).alloc _) (by simp)
 have HNL : Hid (ao = none -> m = [] ∧ cap = 0) := hnl
 clear hnl
 clear hs hn
 have HZ : Hid (9 <= Sha.size n ∧ Sha.size n <= 72 ∧ (n + Sha.size n) % 64 = 0) := Sha.size_ge n
 have HE : Hid (Sha.ending n = 128 :: (List.replicate (Sha.size n - 9) 0 ++ Sha.be8 (8 * n % 18446744073709551616))) := rfl
 obtain ⟨z, hz⟩ : ∃ z, z = Sha.size n := ⟨_, rfl⟩
 rw [<-hz] at HZ HE ⊢
 have hzz := HZ.out
 have h8 : 8 * n % 18446744073709551616 = 8 * n := by omega
 rw [h8] at HE
 clear h8 hz
 go_enter Tryz.func82, Tryz.ntmps82
 have hO0 : (w.alloc (.cells #[] 5)).ownsRow w.heap.size 5 1 (.slice (some ⟨w.heap.size, 0, none⟩) 0 0) 0 [] := World.ownsRow_made w #[] 0 (Nat.le_refl _) (by decide) rfl
 go_wp2_with (at_builtin; refine wpList_append_fresh _ rfl _ _ rfl w.heap.size w.heap.size rfl hO0 ao n cap m rfl hsrc.out HN.out HNL.out (by omega) (by simp) ?_)
 intro g0 c0 w0 hown hgrow
 have HR0 : Hid (Grow w w0 (.slice (some ⟨g0, 0, none⟩) n c0) m) := by
  refine ⟨?_, ((Kept.refl [] w).alloc _).grown hgrow (by intro k hk hlt; simp [Value.ownBlock] at hk; omega)⟩
  rw [HN.out]
  exact hown
 clear hown hgrow hsrc hO0 HNL
 go_wp2_with (at_builtin; refine wpList_append_own _ rfl _ _ 27 rfl w.heap.size 5 i0 (.int .u8 0) 1 1 Tryz.underlying27 hi hz0 hz1 hz2 rfl (by decide) _ _ _ rfl (HR0.out.own.alloc _) ⟨w0.heap.size, 0, none⟩ 1 1 [.int .u8 128] rfl rfl (one_cells_at _ _ _ _ _ rfl) (by simp [Value.oneCell']) ?c3 ?c4 ?c5 ?_)
 case c3 => rw [HN.out]; unfold maxLen; omega
 case c4 => rw [HN.out]; omega
 case c5 => have := HR0.out.kept.size; simp; omega
 intro v' w1 hown hgrow hnn
 have HR : Hid (Grow w w1 v' (m ++ 128 :: List.replicate 0 0)) := HR0.out.one rfl hown hgrow
 obtain ⟨g1, c1, hv1, _⟩ := HR.out.shape hnn
 rw [show (m ++ 128 :: List.replicate 0 (0 : UInt8)).length = n + 1 by rw [<-HN.out]; simp] at hv1
 rw [hv1] at HR ⊢
 clear hown hgrow hnn HR0 hv1
 go_wp2
 go_loopw [3] (fun v wr => ∃ j g c : Nat, j <= z - 9 ∧ v = .slice (some ⟨g, 0, none⟩) (n + 1 + j) c ∧ Hid (Grow w wr (.slice (some ⟨g, 0, none⟩) (n + 1 + j) c) (m ++ 128 :: List.replicate j 0))) (fun v wr => n + z - lenOfD v)
 case atStart =>
  exact ⟨0, g1, c1, by omega, rfl, HR⟩
 case round =>
  clear HR
  obtain ⟨j, g, c, hj, rfl, HR⟩ := hrel
  have hlj : (m ++ 128 :: List.replicate j (0 : UInt8)).length = n + 1 + j := by rw [<-HN.out]; simp; omega
  have hiff := zeros_more n z j hzz hj
  by_cases hlt : j < z - 9
  ·have htm : ((n : Int) + 1 + (j : Int)).tmod 64 ≠ 56 := by
    rw [Int.tmod_eq_emod_of_nonneg (by omega)]
    intro h
    have : (n + 1 + j) % 64 = 56 := by omega
    have := hiff.1 this
    omega
   have htb : (((n : Int) + 1 + (j : Int)) % 64 != 56) = true := by
    rw [Int.tmod_eq_emod_of_nonneg (by omega)] at htm
    simpa using htm
   clear htm hiff
   have hown := HR.out.own.alloc (.cells #[.int .u8 0] 5)
   rw [hlj] at hown
   go_wp2_with (at_builtin; refine wpList_append_own _ rfl _ _ 27 rfl w.heap.size 5 i0 (.int .u8 0) 1 1 Tryz.underlying27 hi hz0 hz1 hz2 rfl (by decide) _ _ _ rfl hown ⟨wr.heap.size, 0, none⟩ 1 1 [.int .u8 0] rfl rfl (one_cells_at _ _ _ _ _ rfl) (by simp [Value.oneCell']) ?c3 ?c4 ?c5 ?_)
   case c3 => unfold maxLen; omega
   case c4 => omega
   case c5 => have := HR.out.kept.size; simp; omega
   intro v' w2 hown2 hgrow hnn
   have HR2 : Hid (Grow w w2 v' (m ++ 128 :: List.replicate (j + 1) 0)) := by
    have := HR.out.one (c := 0) rfl (by rw [hlj]; exact hown2) hgrow
    rw [List.append_assoc, List.cons_append, <-List.replicate_succ'] at this
    exact this
   obtain ⟨g2, c2, hv2, _⟩ := HR2.out.shape hnn
   have e : (m ++ 128 :: List.replicate (j + 1) (0 : UInt8)).length = n + 1 + (j + 1) := by rw [<-HN.out]; simp; omega
   rw [e] at hv2
   rw [hv2] at HR2 ⊢
   clear hown hown2 hgrow hnn HR hv2 htb
   go_wp2
   go_roundw
   case rel => exact ⟨j + 1, g2, c2, by omega, rfl, HR2⟩
   case measure => simp only [lenOfD]; omega
  ·have htm : ((n : Int) + 1 + (j : Int)).tmod 64 = 56 := by
    rw [Int.tmod_eq_emod_of_nonneg (by omega)]
    have := hiff.2 (by omega)
    omega
   clear hiff
   obtain rfl : j = z - 9 := by omega
   have htb : (((n : Int) + 1 + ((z - 9 : Nat) : Int)) % 64 != 56) = false := by
    rw [Int.tmod_eq_emod_of_nonneg (by omega)] at htm
    rw [htm]; rfl
   have HR0 : Hid (Grow w wr (.slice (some ⟨g, 0, none⟩) (n + 1 + (z - 9) + 0) c) (m ++ 128 :: List.replicate (z - 9) 0 ++ (Sha.be8 (8 * n)).take 0)) := by rw [List.take_zero, List.append_nil, Nat.add_zero]; exact HR.out
   obtain ⟨p, hp⟩ : ∃ p, p = z - 9 := ⟨_, rfl⟩
   obtain ⟨N, hN⟩ : ∃ N, N = 8 * n := ⟨_, rfl⟩
   have eN : 8 * (n : Int) = N := by omega
   rw [<-hN] at HE HR0
   rw [<-hp] at HE HR0 htm htb hlj ⊢
   have HPZ : Hid (p = z - 9) := hp
   have hp63 : p <= 63 := by omega
   have HNN : Hid (N = 8 * n) := hN
   clear HR hp hN hlt hj htm
   go_wp2
   go_loopw [3, 5] (fun v i wr => ∃ q g c : Nat, q <= 8 ∧ i = .int .i64 (7 - (q : Int)) ∧ v = .slice (some ⟨g, 0, none⟩) (n + 1 + p + q) c ∧ Hid (Grow w wr (.slice (some ⟨g, 0, none⟩) (n + 1 + p + q) c) (m ++ 128 :: List.replicate p 0 ++ (Sha.be8 N).take q))) (fun v i wr => (intOf i + 1).toNat)
   case atStart => exact ⟨0, g, c, by omega, rfl, rfl, HR0⟩
   case round =>
    clear HR0
    obtain ⟨q, g, c, hq, rfl, rfl, HR⟩ := hrel
    have hlq : (m ++ 128 :: List.replicate p (0 : UInt8) ++ (Sha.be8 N).take q).length = n + 1 + p + q := by rw [List.length_append, hlj, List.length_take, Sha.be8_len]; omega
    by_cases hlt : q < 8
    ·obtain ⟨i, hi7⟩ : ∃ i, i = 7 - q := ⟨_, rfl⟩
     have ei : (7 : Int) - (q : Int) = i := by omega
     have hib : i <= 7 := by omega
     have h0i : (0 : Int) <= (i : Int) := by omega
     have hN63 : N <= 9223372036854775807 := by have := HNN.out; omega
     rw [ei]
     have HI7 : Hid (i = 7 - q) := hi7
     clear ei hi7
     have hown := HR.out.own.alloc (.cells #[.int .u8 ((N : Int) / 2 ^ (8 * i) % 256)] 5)
     rw [hlq] at hown
     go_wp2_with (at_builtin; refine wpList_append_own _ rfl _ _ 27 rfl w.heap.size 5 i0 (.int .u8 0) 1 1 Tryz.underlying27 hi hz0 hz1 hz2 rfl (by decide) _ _ _ rfl hown ⟨wr.heap.size, 0, none⟩ 1 1 [.int .u8 ((N : Int) / 2 ^ (8 * i) % 256)] rfl rfl (one_cells_at _ _ _ _ _ rfl) (by simp [Value.oneCell']) ?c3 ?c4 ?c5 ?_)
     case c3 => unfold maxLen; omega
     case c4 => omega
     case c5 => have := HR.out.kept.size; simp; omega
     intro v' w2 hown2 hgrow hnn
     have HR2 : Hid (Grow w w2 v' (m ++ 128 :: List.replicate p 0 ++ (Sha.be8 N).take (q + 1))) := by
      have h2 := hown2
      rw [<-List.cons_append, <-List.append_assoc] at h2
      have := HR.out.one (c := UInt8.ofNat (N / 256 ^ (7 - q) % 256)) (n := (N : Int) / 2 ^ (8 * i) % 256) (by
       rw [u8_mod, <-HI7.out, show (2 : Int) ^ (8 * i) = ((256 ^ i : Nat) : Int) by rw [Int.natCast_pow, Int.pow_mul]; rfl]
       simp) (by rw [hlq]; exact h2) hgrow
      rw [List.append_assoc, <-be8_get N q hlt] at this
      exact this
     obtain ⟨g2, c2, hv2, _⟩ := HR2.out.shape hnn
     have e : (m ++ 128 :: List.replicate p (0 : UInt8) ++ (Sha.be8 N).take (q + 1)).length = n + 1 + p + (q + 1) := by rw [List.length_append, hlj, List.length_take, Sha.be8_len]; omega
     rw [e] at hv2
     rw [hv2] at HR2 ⊢
     clear hown hown2 hgrow hnn HR hv2
     go_wp2
     go_roundw
     case rel => exact ⟨q + 1, g2, c2, by omega, by have := HI7.out; congr 1 <;> omega, rfl, HR2⟩
     case measure => have := HI7.out; simp [intOf] <;> omega
    ·obtain rfl : q = 8 := by omega
     obtain ⟨g2, c2, hv2, hg2, hg3, hc2, hsl2⟩ := HR.out.shape (by intro h; cases h)
     rw [hlq] at hv2
     cases hv2
     have HB := Kept.below HR.out.kept (Nat.le_refl _) (by simp)
     have hzp : n + 1 + p + 8 = n + z := by have := HPZ.out; omega
     rw [hlq, hzp] at hc2
     rw [List.take_of_length_le (by rw [Sha.be8_len]; exact Nat.le_refl _), List.append_assoc, List.cons_append, <-HE.out] at hsl2
     have FIN : Hid (w.heap.size <= g ∧ g < wr.heap.size ∧ n + z <= c ∧ Sl wr (some ⟨g, 0, none⟩) (m ++ Sha.ending n) ∧ Below w.heap.size w wr) := ⟨hg2, hg3, hc2, hsl2, HB⟩
     rw [hzp]
     clear HR hg2 hg3 hc2 hsl2 HB hlq hlj hzp
     go_wp2
     go_ret
     exact ⟨g, c, rfl, FIN.out⟩
end

section
def laid1 (L : List Nat) : Nat -> List UInt8
 | 0 => List.replicate 32 0
 | i + 1 => (laid1 L i).set i ((Sha.four (L.getD (i / 4) 0)).getD (i % 4) 0)
theorem laid1_all (s : Sha.S8) : laid1 s.words 32 = Sha.bytes s := by kernel_rfl
theorem four_at (x k : Nat) (hk : k < 4) : (((Sha.four x).getD k 0).toNat : Int) = (x : Int) / 2 ^ (24 - 8 * k) % 256 := by
 rcases k with _ | _ | _ | _ | k
 ·show ((UInt8.ofNat (x / 16777216 % 256)).toNat : Int) = _
  rw [u8_mod]; simp
 ·show ((UInt8.ofNat (x / 65536 % 256)).toNat : Int) = _
  rw [u8_mod]; simp
 ·show ((UInt8.ofNat (x / 256 % 256)).toNat : Int) = _
  rw [u8_mod]; simp
 ·show ((UInt8.ofNat (x % 256)).toNat : Int) = _
  rw [u8_mod]; simp
 ·omega
structure RF (w wr : World) (r S K g : Nat) (L : List Nat) (R : List UInt8) : Prop where
 res : wr.heap[r]? = some (.cells zero32 22 (0, 0))
 sta : wr.heap[S]? = some (.cells (wds L).toArray 137 (0, 0))
 tab : wr.heap[K]? = some (.cells (wds Sha.table).toArray 139 (0, 0))
 sl : Sl wr (some ⟨g, 0, none⟩) R
 below : Below w.heap.size w wr
 ps : w.heap.size <= r ∧ r < S ∧ S < K ∧ S ≠ g
theorem RF.drewN {w wr : World} {r S K g : Nat} {L : List Nat} {R : List UInt8} (h : RF w wr r S K g L R) (n : Nat) : RF w (wr.drewN n) r S K g L R :=
 ⟨h.res, h.sta, h.tab, h.sl.drewN n, ⟨h.below.os, h.below.tape, h.below.output, h.below.size, h.below.block⟩, h.ps⟩
theorem RF.later {w wr w2 : World} {r S K g : Nat} {L : List Nat} {R : List UInt8} (h : RF w wr r S K g L R) (hb : Below wr.heap.size wr w2) : RF w w2 r S K g L R :=
 ⟨(hb.block r (gs h.res).1).trans h.res, (hb.block S (gs h.sta).1).trans h.sta, (hb.block K (gs h.tab).1).trans h.tab, h.sl.kept (Kept.of_below hb) (by simp), h.below.trans (hb.mono h.below.size), h.ps⟩
theorem RF.setS {w wr : World} {r S K g : Nat} {L : List Nat} {R : List UInt8} (h : RF w wr r S K g L R) (L' : List Nat) : RF w (wr.setRow S (wds L').toArray) r S K g L' R := by
 have := h.ps
 refine ⟨by rw [setRow_other _ _ _ _ (by omega)]; exact h.res, setRow_heap _ _ _ _ _ _ h.sta, by rw [setRow_other _ _ _ _ (by omega)]; exact h.tab, ?_, below_row h.below (by omega) _, h.ps⟩
 refine h.sl.kept (l := [S]) (kept_setRowD (Kept.refl _ _) (by simp) _) ?_
 rintro _ a ⟨⟩
 simp; omega
theorem row_range {w : World} {g : Nat} {cs : List Value} {t : TypeId} (h : w.heap[g]? = some (.cells cs.toArray t (0, 0))) : w.rangeAt g 0 cs := fun j v hv => by
 rw [cell_of_row _ _ _ _ _ _ h, Nat.zero_add, List.getElem?_toArray]; exact hv
theorem words_size (s : Sha.S8) : (wds s.words).toArray.size = 8 := by rw [List.size_toArray, wds_len]; rfl
theorem words_sizes (s q : Sha.S8) : (wds s.words).toArray.size = (wds q.words).toArray.size := (words_size s).trans (words_size q).symm
theorem Tryz.infoWords (s : Sha.S8) : (Tryz.prog.info? 137).map (·.size) = some (wds s.words).toArray.size := by rw [words_size]; exact Tryz.info8
theorem words_all (s : Sha.S8) : (wds s.words).toArray.all (·.oneCell') = true := Array.all_eq_true_iff_forall_mem.2 fun v hv => wds_oneCell _ v (by simpa using hv)
theorem Tryz.cut64 (W : World) (g L cap k : Nat) (hk : k + 64 <= L) (hc : L <= cap) :
  (Instr.slice 27 (.slice (some ⟨g, 0, none⟩) L cap) (some (.int .i64 k)) (some (.int .i64 ((k : Int) + 64))) none).run Tryz.prog W = .ok (.slice (some ⟨g, k, none⟩) 64 (cap - k)) W := by
 have hz : (sizeOf (Tryz.prog.elem 27)).run Tryz.prog W = .ok 1 W := by kernel_rfl
 have h := run_slice_lh (P := Tryz.prog) W 27 (some ⟨g, 0, none⟩) L cap (by kernel_rfl) .i64 .i64 k ((k : Int) + 64) (by omega) (by omega) (by omega)
 rw [h, hz]
 have e : ((k : Int) + 64).toNat = k + 64 := by omega
 simp [sliced, Addr.add_mid, show cap ≠ k by omega, e]
theorem rfull_of (ao : Option Addr) (cap : Nat) (m : List UInt8) (w : World) (n : Nat) (hn : m.length = n) (hlen : n <= 200000000000000)
  (hrow : ∀ w1, Below w.heap.size w w1 -> Calls Tryz.prog 82 #[.slice ao n cap] w1 fun e w' => ∃ g c, e = .returned (.slice (some ⟨g, 0, none⟩) (n + Sha.size n) c) ∧ w1.heap.size <= g ∧ g < w'.heap.size ∧ n + Sha.size n <= c ∧ Sl w' (some ⟨g, 0, none⟩) (m ++ Sha.ending n) ∧ Below w1.heap.size w1 w') :
  Calls Tryz.prog 40 #[.slice ao n cap] w fun e w' => e = .returned (.agg (bys (Sha.full m)).toArray) ∧ Below w.heap.size w w' := by
 have hz := Tryz.zeroB32
 have hz8 := Tryz.zeroW8
 have hz64 := Tryz.zeroW64
 have HROW := (show Hid (∀ _, _) from hrow)
 have HFU : Hid (Sha.full m = Sha.bytes (Sha.st (m ++ Sha.ending n) ((n + Sha.size n) / 64))) := by rw [<-hn]; rfl
 clear hrow
 obtain ⟨r, hr⟩ : ∃ r, r = w.heap.size := ⟨_, rfl⟩
 have hr0 : (w.alloc (.cells zero32 22)).heap[w.heap.size]? = some (.cells zero32 22 (0, 0)) := heap_alloc_new _ _
 have hB0 : Below w.heap.size w (w.alloc (.cells zero32 22)) := (Below.refl _ _).alloc (Nat.le_refl _) _
 go_enter Tryz.func40, Tryz.ntmps40
 go_wp2_with (fail)
 rw [<-hr] at hr0 ⊢
 have HRr : Hid (r = w.heap.size) := hr
 clear hr
 generalize w.alloc _ = w0 at hr0 hB0 ⊢
 refine (rfirst_ok _).mono ?_
 rintro e w1 ⟨rfl, hb1⟩
 have hr1 := (hb1.block r (gs hr0).1).trans hr0
 have hB1 := hB0.trans (hb1.mono hB0.size)
 clear hr0 hB0 hb1
 have hS1 : (w1.alloc (.cells zero8 137)).heap[w1.heap.size]? = some (.cells zero8 137 (0, 0)) := heap_alloc_new _ _
 go_wp2_with (refine wpList_store_rowTo rfl 137 (.tmp 3) (.tmp 9) rfl rfl w1.heap.size (wds Sha.first.words).toArray rfl rfl 137 zero8 hS1 Tryz.info8 (by kernel_rfl) (by kernel_rfl) ?_)
 obtain ⟨S, hS⟩ : ∃ S, S = w1.heap.size := ⟨_, rfl⟩
 have hS2 : ((w1.alloc (.cells zero8 137)).setRow w1.heap.size (wds Sha.first.words).toArray).heap[S]? = some (.cells (wds Sha.first.words).toArray 137 (0, 0)) := by rw [hS]; exact setRow_heap _ _ _ _ _ _ hS1
 have hrl : r < w1.heap.size := (gs hr1).1
 have hr2 : ((w1.alloc (.cells zero8 137)).setRow w1.heap.size (wds Sha.first.words).toArray).heap[r]? = some (.cells zero32 22 (0, 0)) := by rw [setRow_other _ _ _ _ (by omega), heap_alloc_old w1 _ hrl]; exact hr1
 have hB2 : Below w.heap.size w ((w1.alloc (.cells zero8 137)).setRow w1.heap.size (wds Sha.first.words).toArray) := below_row (hB1.alloc hB1.size _) hB1.size _
 clear hS1 hr1 hB1
 generalize World.setRow _ _ _ = w2 at hS2 hr2 hB2 ⊢
 rw [<-hS]
 have HPS : Hid (r < S) := by rw [hS]; exact hrl
 clear hS hrl
 refine (rtable_ok _).mono ?_
 rintro e w3 ⟨rfl, hb3⟩
 have hr3 := (hb3.block r (gs hr2).1).trans hr2
 have hS3 := (hb3.block S (gs hS2).1).trans hS2
 have hB3 := hB2.trans (hb3.mono hB2.size)
 clear hr2 hS2 hB2 hb3
 have hK3 : (w3.alloc (.cells zero64 139)).heap[w3.heap.size]? = some (.cells zero64 139 (0, 0)) := heap_alloc_new _ _
 go_wp2_with (refine wpList_store_rowTo rfl 139 (.tmp 4) (.tmp 10) rfl rfl w3.heap.size (wds Sha.table).toArray rfl rfl 139 zero64 hK3 Tryz.info64 (by kernel_rfl) (by kernel_rfl) ?_)
 obtain ⟨K, hK⟩ : ∃ S, S = w3.heap.size := ⟨_, rfl⟩
 have hK4 : ((w3.alloc (.cells zero64 139)).setRow w3.heap.size (wds Sha.table).toArray).heap[K]? = some (.cells (wds Sha.table).toArray 139 (0, 0)) := by rw [hK]; exact setRow_heap _ _ _ _ _ _ hK3
 have hrl : r < w3.heap.size := (gs hr3).1
 have hSl : S < w3.heap.size := (gs hS3).1
 have hr4 : ((w3.alloc (.cells zero64 139)).setRow w3.heap.size (wds Sha.table).toArray).heap[r]? = some (.cells zero32 22 (0, 0)) := by rw [setRow_other _ _ _ _ (by omega), heap_alloc_old w3 _ hrl]; exact hr3
 have hS4 : ((w3.alloc (.cells zero64 139)).setRow w3.heap.size (wds Sha.table).toArray).heap[S]? = some (.cells (wds Sha.first.words).toArray 137 (0, 0)) := by rw [setRow_other _ _ _ _ (by omega), heap_alloc_old w3 _ hSl]; exact hS3
 have hB4 : Below w.heap.size w ((w3.alloc (.cells zero64 139)).setRow w3.heap.size (wds Sha.table).toArray) := below_row (hB3.alloc hB3.size _) hB3.size _
 clear hK3 hr3 hS3 hB3
 generalize World.setRow _ _ _ = w4 at hK4 hr4 hS4 hB4 ⊢
 rw [<-hK]
 have HPK : Hid (S < K) := by rw [hK]; exact hSl
 clear hK hrl hSl
 refine (HROW.out w4 hB4).mono ?_
 rintro e w5 ⟨g, c, rfl, hg4, hg5, hc5, hsl5, hb5⟩
 have HF : Hid (RF w w5 r S K g (Sha.st (m ++ Sha.ending n) 0).words (m ++ Sha.ending n)) := by
  have h1 := HPS.out; have h2 := HPK.out; have h3 := HRr.out
  have h4 := (gs hS4).1
  exact ⟨(hb5.block r (gs hr4).1).trans hr4, (hb5.block S h4).trans hS4, (hb5.block K (gs hK4).1).trans hK4, hsl5, hB4.trans (hb5.mono hB4.size), by omega⟩
 have hsz := Sha.size_ge n
 have HRL : Hid ((m ++ Sha.ending n).length = n + Sha.size n) := by show _ = _; rw [List.length_append, hn, Sha.ending_len]
 clear HROW hr4 hS4 hB4 hK4 hg4 hg5 hsl5 hb5 hz8 hz64
 generalize m ++ Sha.ending n = R at HF HRL HFU
 generalize Sha.size n = z at hsz hc5 HRL HFU ⊢
 obtain ⟨T, hT⟩ := nm (n + z)
 have hT63 : T <= 9223372036854775000 := by omega
 have HT : Hid (T % 64 = 0) := by show _ = _; omega
 rw [hT] at hc5 HRL HFU ⊢
 clear hsz hT
 go_wp2
 go_loopw [6] (fun x wr => ∃ k : Nat, 64 * k <= T ∧ x = .int .i64 (64 * k : Nat) ∧ Hid (RF w wr r S K g (Sha.st R k).words R)) (fun x wr => T - (intOf x).toNat)
 case atStart => exact ⟨0, by omega, rfl, HF⟩
 case round =>
  clear HF
  obtain ⟨k, hk, rfl, HR⟩ := hrel
  obtain ⟨at_, hat⟩ : ∃ a, a = 64 * k := ⟨_, rfl⟩
  rw [<-hat] at hk ⊢
  by_cases hlt : at_ < T
  ·have hfit : at_ + 64 <= T := by have := HT.out; omega
   have hcut := fun W => Tryz.cut64 W g T c at_ hfit hc5
   have hq := Sha.st_ok R k
   have HQ : Hid (Sha.st R (k + 1) = Sha.turn (Sha.st R k) ((R.drop at_).take 64)) := by show _ = _; rw [hat, Sha.st]
   have hbl : ((R.drop at_).take 64).length = 64 := by rw [List.length_take, List.length_drop, HRL.out]; omega
   obtain ⟨gg, off, hgo, hgl, hcells⟩ := HR.out.sl.open (by intro e; have := HRL.out; rw [e] at this; simp at this; omega)
   cases hgo
   have HCB : Hid (∀ i, i < 64 -> wr.cell? ⟨g, at_ + i, none⟩ = some (.int .u8 (((R.drop at_).take 64).getD i 0).toNat)) := fun i hi => by
    have := hcells (at_ + i) (by rw [HRL.out]; omega)
    rw [Nat.zero_add] at this
    rw [this]
    simp [hi]
   generalize (R.drop at_).take 64 = bs at hbl HQ HCB
   have hrs := row_range HR.out.sta
   have hrk := row_range HR.out.tab
   generalize Sha.st R k = q at hq HQ HR hrs
   have HRR : Hid (wr.rangeAt S 0 (wds q.words) ∧ wr.rangeAt K 0 (wds Sha.table)) := ⟨hrs, hrk⟩
   have HAT : Hid (at_ = 64 * k) := hat
   clear hrs hrk hcells hat
   have hw64 : IntKind.i64.wrap ((at_ : Int) + 64) = (at_ : Int) + 64 := by rw [IntWalk.i64_in _ (by omega)]
   go_wp2
   refine wp_region_still_tail 7 Tryz.followsD (by kernel_rfl) ?_
   simp only [List.take_succ_cons, List.take_zero, List.drop_succ_cons, List.drop_zero]
   (refine wpStill_step (fun K hK => ?_); rw [if_pos (by rfl)]; refine still_load_mid 137 (.tmp 3) rfl S 0 rfl (wds q.words) _ HRR.out.1 Tryz.underlying137 rfl Tryz.info8 ?_; refine hK _ ?_; clear hK K; simp only [z4, z5, z6, z7, z8])
   repeat still_step
   (refine wpStill_step (fun K hK => ?_); rw [if_pos (by rfl)]; refine still_load_mid 139 (.tmp 4) rfl _ 0 rfl (wds Sha.table) _ HRR.out.2 Tryz.underlying139 rfl Tryz.info64 ?_; refine hK _ ?_; clear hK K; simp only [z4, z5, z6, z7, z8])
   refine wpStill_nil ?_
   rw [World.drew_eq]
   have HR2 : Hid (RF w wr.drew r S K g q.words R) := HR.out.drewN 1
   have HCB2 : Hid (∀ i, i < 64 -> wr.drew.cell? ⟨g, at_ + i, none⟩ = some (.int .u8 (bs.getD i 0).toNat)) := HCB.out
   have hgl2 : g < wr.drew.heap.size := hgl
   clear HR HRR HCB hgl hcut
   generalize wr.drew = w6 at HR2 HCB2 hgl2 ⊢
   go_wp2_with (fail)
   refine (rturn_ok q hq g at_ (c - at_) bs w6 hbl hgl2 HCB2.out).mono ?_
   rintro e w7 ⟨rfl, hb7⟩
   have HR3 : Hid (RF w w7 r S K g q.words R) := HR2.out.later hb7
   have hs3 := HR3.out.sta
   have HS : Hid (RF w (w7.setRow S (wds (Sha.turn q bs).words).toArray) r S K g (Sha.st R (k + 1)).words R) := by
    rw [HQ.out]; exact HR3.out.setS _
   clear HR2 HCB2 hb7 HR3 HQ
   generalize Sha.turn q bs = q2 at HS ⊢
   go_wp2_with (refine wpList_store_rowTo rfl 137 (.tmp 3) (.tmp 26) rfl rfl S (wds q2.words).toArray rfl rfl 137 _ hs3 (Tryz.infoWords q2) (words_sizes q q2) (words_all q2) ?_)
   go_roundw
   case rel => first | exact ⟨k + 1, by have := HAT.out; omega, by have := HAT.out; congr 1; omega, HS⟩ | ((repeat apply Exists.intro); exact ⟨⟨k + 1, by have := HAT.out; omega, by have := HAT.out; congr 1; omega, HS⟩, rfl⟩)
   case measure => simp [intOf]; omega
  ·have hkT : k = T / 64 := by have := HT.out; omega
   have hq := Sha.st_ok R k
   have HFB : Hid (Sha.bytes (Sha.st R k) = Sha.full m) := by show _ = _; rw [HFU.out, hkT]
   generalize Sha.st R k = q at hq HFB HR
   clear HFU hkT hat
   obtain ⟨B, hB⟩ : ∃ B, B = wr.heap.size := ⟨_, rfl⟩
   have hbb : (wr.alloc (.cells zero32 22)).heap[wr.heap.size]? = some (.cells zero32 22 (0, 0)) := heap_alloc_new _ _
   have hrl : r < wr.heap.size := (gs HR.out.res).1
   have HF : Hid (Fill32 w (wr.alloc (.cells zero32 22)) 22 r B (laid1 q.words 0)) := by
    have := HR.out.ps
    have := HR.out.below.size
    refine ⟨by rw [heap_alloc_old wr _ hrl]; exact HR.out.res, by rw [hB]; exact hbb, rfl, HR.out.below.alloc HR.out.below.size _, by omega⟩
   have HC : Hid (∀ i, i < 8 -> (wr.alloc (.cells zero32 22)).cell? ⟨S, i, none⟩ = some (.int .u32 (q.words.getD i 0 : Nat))) := fun i hi => by
    rw [cell_of_row _ _ _ _ _ _ ((heap_alloc_old wr _ (gs HR.out.sta).1).trans HR.out.sta), List.getElem?_toArray, wds_at (by exact hi)]
   have HSB : Hid (S < B) := by rw [hB]; exact (gs HR.out.sta).1
   clear HR hbb hrl
   go_wp2
   rw [<-hB]
   clear hB hz
   generalize wr.alloc _ = w8 at HF HC ⊢
   go_loopw [8] (fun x wr => ∃ i : Nat, i <= 32 ∧ x = .int .i64 i ∧ Hid (Fill32 w wr 22 r B (laid1 q.words i)) ∧ Hid (∀ i, i < 8 -> wr.cell? ⟨S, i, none⟩ = some (.int .u32 (q.words.getD i 0 : Nat)))) (fun x wr => 32 - (intOf x).toNat)
   case atStart => exact ⟨0, by omega, rfl, HF, HC⟩
   case round =>
    clear HF HC
    obtain ⟨i, hi, rfl, HF, HC⟩ := hrel
    by_cases hlt2 : i < 32
    ·obtain ⟨d, hd⟩ : ∃ d, d = i / 4 := ⟨_, rfl⟩
     obtain ⟨e, he⟩ : ∃ d, d = i % 4 := ⟨_, rfl⟩
     obtain ⟨sh, hsh⟩ : ∃ d, d = 24 - 8 * e := ⟨_, rfl⟩
     have ed : (i : Int) / 4 = d := by omega
     have ee : (i : Int) % 4 = e := by omega
     have es : (24 : Int) - 8 * (e : Int) = sh := by omega
     have ld : (d : Int) < 8 := by omega
     have li : (i : Int) < 32 := by omega
     have ls : sh <= 24 := by omega
     have cs := HC.out d (by omega)
     have ci := HF.out.cell i hlt2
     have fi := HF.out.frozen i
     have hxl := words_ok hq d
     have h4 := four_at (q.words.getD d 0) e (by omega)
     rw [<-hsh] at h4
     have HS : Hid (Fill32 w (wr.setCell ⟨B, i, none⟩ (.int .u8 ((q.words.getD d 0 : Int) / 2 ^ sh % 256))) 22 r B (laid1 q.words (i + 1))) := by
      have := HF.out.set i ((Sha.four (q.words.getD d 0)).getD e 0)
      rw [h4] at this
      rw [hd, he] at this
      rw [hd]
      exact this
     have HC2 : ∀ v, Hid (∀ j, j < 8 -> (wr.setCell ⟨B, i, none⟩ v).cell? ⟨S, j, none⟩ = some (.int .u32 (q.words.getD j 0 : Nat))) := fun v j hj => by
      rw [World.cell?_setCell_other _ _ _ _ (by intro e; injection e with e1; have := HSB.out; omega)]
      exact HC.out j hj
     clear h4 HF HC hd he hsh
     generalize (laid1 q.words i).getD i 0 = old at ci
     generalize q.words.getD d 0 = x at cs hxl HS
     go_wp2
     go_roundw
     case rel => exact ⟨i + 1, by omega, by go_num, HS, HC2 _⟩
     case measure => simp [intOf]; omega
    ·obtain rfl : i = 32 := by omega
     have h1 := HF.out.arr
     have h2 := HF.out.res
     have hlen : (bys (laid1 q.words 32)).toArray.size = 32 := by simp [bys_length, HF.out.len]
     have hinf : (Tryz.prog.info? 22).map (·.size) = some (bys (laid1 q.words 32)).toArray.size := by rw [hlen]; exact Tryz.info32
     have hz0 : zero32.size = (bys (laid1 q.words 32)).toArray.size := by rw [hlen]; rfl
     have hone := bys_all (laid1 q.words 32)
     have HFIN : Hid (laid1 q.words 32 = Sha.full m) := (laid1_all q).trans HFB.out
     generalize laid1 q.words 32 = F at h1 hlen hinf hone hz0 HFIN HF
     go_wp2_with (first | refine wpList_load_row rfl 22 (.tmp 7) rfl B rfl 22 _ (0, 0) _ h1 Tryz.underlying22 rfl hinf ?_ | refine wpList_store_rowTo rfl 22 (.tmp 2) (.tmp 43) rfl rfl r (bys F).toArray rfl rfl 22 zero32 h2 hinf hz0 hone ?_)
     exact ret_row rfl rfl r 22 _ (0, 0) _ rfl (setRow_heap _ _ _ _ _ _ h2) Tryz.underlying22 rfl hinf ⟨by rw [HFIN.out], below_row HF.out.below HF.out.ps.1 _⟩
end

section
theorem rfull_any (ao : Option Addr) (cap : Nat) (m : List UInt8) (w : World) (n : Nat) (hn : m.length = n) (hlen : n <= 140737488351232) (hs : Sl w ao m) (hnl : ao = none -> m = [] ∧ cap = 0) :
  Calls Tryz.prog 40 #[.slice ao n cap] w fun e w' => e = .returned (.agg (bys (Sha.full m)).toArray) ∧ Below w.heap.size w w' :=
 rfull_of ao cap m w n hn (by omega) fun w1 hb => row_any ao cap m w1 (hs.kept (Kept.of_below hb) (by simp)) hnl (by omega) n hn
def idl (F : List UInt8) : Nat -> List UInt8
 | 0 => List.replicate 32 0
 | i + 1 => (idl F i).set i (F.getD i 0)
theorem idl_eq (F : List UInt8) (hF : F.length = 32) : ∀ i, i <= 32 -> idl F i = F.take i ++ List.replicate (32 - i) 0
 | 0, _ => by simp [idl]
 | i + 1, h => by
  rw [idl, idl_eq F hF i (by omega), List.set_append_right _ _ (by simp; omega), List.length_take, Nat.min_eq_left (by omega), Nat.sub_self]
  obtain ⟨j, hj⟩ : ∃ j, 32 - i = j + 1 := ⟨31 - i, by omega⟩
  rw [hj, List.replicate_succ, List.set_cons_zero, show 32 - (i + 1) = j by omega, List.take_succ_eq_append_getElem (by omega), List.append_assoc]
  simp [List.getElem?_eq_getElem (show i < F.length by omega)]
end

end Go.Proofs.YtmklodligplbaabGreat
