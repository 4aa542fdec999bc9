import Derived.Test.YtmklodligplbaaaGreatDt2m
import Derived.Test.YtmklodligplbaaaGreatDh4m
import Derived.Laws.AppendOwnNone
import Derived.OwnWalk
open Go.RowKit
set_option linter.unusedVariables false
set_option linter.unusedSimpArgs false
set_option maxRecDepth 100000
set_option maxHeartbeats 51200000
namespace Go.Proofs.YtmklodligplbaaaGreat
section
def pw (bs : List UInt8) (t : Nat) : Nat -> Nat
 | 0 => 0
 | i + 1 => pw bs t i * 256 + (bs.getD (4 * t + i) 0).toNat
theorem pw_four (bs : List UInt8) (t : Nat) : pw bs t 4 = Sha.wordAt bs t := by
 simp only [pw, Sha.wordAt, Sha.word, Nat.add_zero]; omega
theorem pw_lt (bs : List UInt8) (t i : Nat) : pw bs t i < 256 ^ i := by
 induction i with
 | zero => simp [pw]
 | succ i ih =>
  have := (bs.getD (4 * t + i) 0).toNat_lt
  simp only [pw, Nat.pow_succ]; omega
theorem lay_zero (bs : List UInt8) : ∀ (t i : Nat), t <= i -> (Sha.lay bs t).getD i 0 = 0
 | 0, i, _ => by
  simp only [Sha.lay, List.getD_eq_getElem?_getD, List.getElem?_replicate]
  split <;> rfl
 | t + 1, i, h => by
  have ih := lay_zero bs t i (by omega)
  simp only [Sha.lay, List.getD_eq_getElem?_getD, List.getElem?_set, if_neg (show t ≠ i by omega)] at ih ⊢
  exact ih
theorem lay_set_zero (bs : List UInt8) (t : Nat) (h : t < 64) : (Sha.lay bs t).set t (pw bs t 0) = Sha.lay bs t := by
 apply List.ext_getElem
 ·simp
 ·intro i h1 h2
  rw [List.getElem_set]
  split
  ·rename_i e
   subst e
   have := lay_zero bs t t (Nat.le_refl _)
   simp only [List.getD_eq_getElem?_getD, List.getElem?_eq_getElem h2, Option.getD_some] at this
   rw [this]; rfl
  ·rfl
theorem lay_set_four (bs : List UInt8) (t : Nat) : (Sha.lay bs t).set t (pw bs t 4) = Sha.lay bs (t + 1) := by rw [pw_four]; rfl
theorem set_get (l : List Nat) (t v : Nat) (h : t < l.length) : (l.set t v).getD t 0 = v := by simp [h]
structure RT (w wr : World) (r S K V : Nat) (L A : List Nat) : Prop where
 res : wr.heap[r]? = some (.cells zero8 153 (0, 0))
 sta : wr.heap[S]? = some (.cells (wds L).toArray 153 (0, 0))
 tab : wr.heap[K]? = some (.cells (wds Sha.table).toArray 155 (0, 0))
 arr : wr.heap[V]? = some (.cells (wds A).toArray 155 (0, 0))
 llen : L.length = 8
 len : A.length = 64
 wds : Sha.Words A
 lwds : Sha.Words L
 below : Below w.heap.size w wr
 ps : w.heap.size <= S ∧ S < K ∧ K < r ∧ r < V
theorem RT.cellS {w wr : World} {r S K V : Nat} {L A : List Nat} (h : RT w wr r S K V L A) (i : Nat) (hi : i < 8) : wr.cell? ⟨S, i, none⟩ = some (.int .u32 (L.getD i 0 : Nat)) := by
 rw [cell_of_row _ _ _ _ _ _ h.sta, List.getElem?_toArray, wds_at (by rw [h.llen]; exact hi)]
theorem RT.cellV {w wr : World} {r S K V : Nat} {L A : List Nat} (h : RT w wr r S K V L A) (i : Nat) (hi : i < 64) : wr.cell? ⟨V, i, none⟩ = some (.int .u32 (A.getD i 0 : Nat)) := by
 rw [cell_of_row _ _ _ _ _ _ h.arr, List.getElem?_toArray, wds_at (by rw [h.len]; exact hi)]
theorem RT.cellK {w wr : World} {r S K V : Nat} {L A : List Nat} (h : RT w wr r S K V L A) (i : Nat) (hi : i < 64) : wr.cell? ⟨K, i, none⟩ = some (.int .u32 (Sha.tb i : Nat)) := by
 rw [cell_of_row _ _ _ _ _ _ h.tab, List.getElem?_toArray, wds_at (by exact hi)]; rfl
theorem RT.frozenV {w wr : World} {r S K V : Nat} {L A : List Nat} (h : RT w wr r S K V L A) (i : Nat) : wr.frozen? ⟨V, i, none⟩ = false := frozen_of_row _ _ _ _ _ h.arr
theorem RT.frozenS {w wr : World} {r S K V : Nat} {L A : List Nat} (h : RT w wr r S K V L A) (i : Nat) : wr.frozen? ⟨S, i, none⟩ = false := frozen_of_row _ _ _ _ _ h.sta
theorem RT.drewN {w wr : World} {r S K V : Nat} {L A : List Nat} (h : RT w wr r S K V L A) (n : Nat) : RT w (wr.drewN n) r S K V L A :=
 ⟨h.res, h.sta, h.tab, h.arr, h.llen, h.len, h.wds, h.lwds, ⟨h.below.os, h.below.tape, h.below.output, h.below.size, h.below.block⟩, h.ps⟩
theorem RT.drew {w wr : World} {r S K V : Nat} {L A : List Nat} (h : RT w wr r S K V L A) : RT w wr.drew r S K V L A := h.drewN 1
theorem RT.setV {w wr : World} {r S K V : Nat} {L A : List Nat} (h : RT w wr r S K V L A) (i v : Nat) (hv : v < 4294967296) : RT w (wr.setCell ⟨V, i, none⟩ (.int .u32 v)) r S K V L (A.set i v) := by
 have := h.ps
 refine ⟨by rw [heap_setCell_other _ _ _ _ (by show r ≠ V; omega)]; exact h.res, by rw [heap_setCell_other _ _ _ _ (by show S ≠ V; omega)]; exact h.sta, by rw [heap_setCell_other _ _ _ _ (by show K ≠ V; omega)]; exact h.tab, ?_, h.llen, by simp [h.len], h.wds.set i hv, h.lwds, ?_, h.ps⟩
 ·rw [heap_setCell_same _ _ _ _ _ _ h.arr, List.setIfInBounds_toArray, wds_set]
 ·exact ⟨h.below.os, h.below.tape, h.below.output, by rw [World.size_setCell]; exact h.below.size, fun k hk => (heap_setCell_other _ _ _ _ (by show k ≠ V; omega)).trans (h.below.block k hk)⟩
theorem RT.setS {w wr : World} {r S K V : Nat} {L A : List Nat} (h : RT w wr r S K V L A) (i v : Nat) (hv : v < 4294967296) : RT w (wr.setCell ⟨S, i, none⟩ (.int .u32 v)) r S K V (L.set i v) A := by
 have := h.ps
 refine ⟨by rw [heap_setCell_other _ _ _ _ (by show r ≠ S; omega)]; exact h.res, ?_, by rw [heap_setCell_other _ _ _ _ (by show K ≠ S; omega)]; exact h.tab, by rw [heap_setCell_other _ _ _ _ (by show V ≠ S; omega)]; exact h.arr, by simp [h.llen], h.len, h.wds, h.lwds.set i hv, ?_, h.ps⟩
 ·rw [heap_setCell_same _ _ _ _ _ _ h.sta, List.setIfInBounds_toArray, wds_set]
 ·exact ⟨h.below.os, h.below.tape, h.below.output, by rw [World.size_setCell]; exact h.below.size, fun k hk => (heap_setCell_other _ _ _ _ (by show k ≠ S; omega)).trans (h.below.block k hk)⟩
theorem RT.kept {w wr w2 : World} {r S K V : Nat} {L A : List Nat} {l : List Nat} (h : RT w wr r S K V L A) (hk : Kept l wr w2) (hl : ∀ i, i ∈ l -> V < i) : RT w w2 r S K V L A := by
 have hp := h.ps
 have lt : ∀ {i : Nat} {o : Obj}, wr.heap[i]? = some o -> i < wr.heap.size := fun e => (gs e).1
 have nm : ∀ i, i <= V -> i ∉ l := fun i hi hm => by have := hl i hm; omega
 exact ⟨(hk.block r (lt h.res) (nm r (by omega))).trans h.res, (hk.block S (lt h.sta) (nm S (by omega))).trans h.sta, (hk.block K (lt h.tab) (nm K (by omega))).trans h.tab, (hk.block V (lt h.arr) (nm V (by omega))).trans h.arr, h.llen, h.len, h.wds, h.lwds,
  h.below.trans (hk.below h.below.size (fun i hi => by have := hl i hi; omega)), hp⟩
theorem blocks4 (w : World) (o1 o2 o3 o4 : Obj) : ((((w.alloc o1).alloc o2).alloc o3).alloc o4).heap[w.heap.size]? = some o1 ∧ ((((w.alloc o1).alloc o2).alloc o3).alloc o4).heap[w.heap.size + 1]? = some o2 ∧ ((((w.alloc o1).alloc o2).alloc o3).alloc o4).heap[w.heap.size + 1 + 1]? = some o3 ∧ ((((w.alloc o1).alloc o2).alloc o3).alloc o4).heap[w.heap.size + 1 + 1 + 1]? = some o4 := by
 have e : ((((w.alloc o1).alloc o2).alloc o3).alloc o4).heap = (((w.heap.push o1).push o2).push o3).push o4 := rfl
 rw [e]
 refine ⟨?_, ?_, ?_, ?_⟩
 ·rw [Array.getElem?_push, if_neg (by simp <;> omega), Array.getElem?_push, if_neg (by simp <;> omega), Array.getElem?_push, if_neg (by simp), Array.getElem?_push, if_pos rfl]
 ·rw [Array.getElem?_push, if_neg (by simp <;> omega), Array.getElem?_push, if_neg (by simp), Array.getElem?_push, if_pos (by simp)]
 ·rw [Array.getElem?_push, if_neg (by simp), Array.getElem?_push, if_pos (by simp)]
 ·rw [Array.getElem?_push, if_pos (by simp)]
theorem rturn_ok (s : Sha.S8) (hs : s.Ok) (b o cap : Nat) (bs : List UInt8) (w : World) (hl : bs.length = 64) (hb : b < w.heap.size) (hc : ∀ i, i < 64 -> w.cell? ⟨b, o + i, none⟩ = some (.int .u8 (bs.getD i 0).toNat)) :
  Calls Tryz.prog 104 #[.agg (wds s.words).toArray, .slice (some ⟨b, o, none⟩) 64 cap, .agg (wds Sha.table).toArray] w fun e w' => e = .returned (.agg (wds (Sha.turn s bs).words).toArray) ∧ Below w.heap.size w w' := by
 have hz64 := Tryz.zeroW64
 have hz := Tryz.zeroW8
 obtain ⟨S, hS⟩ : ∃ S, S = w.heap.size := ⟨_, rfl⟩
 obtain ⟨K, hK⟩ : ∃ S, S = w.heap.size + 1 := ⟨_, rfl⟩
 obtain ⟨r, hr⟩ : ∃ r, r = w.heap.size + 1 + 1 := ⟨_, rfl⟩
 obtain ⟨V, hV⟩ : ∃ S, S = w.heap.size + 1 + 1 + 1 := ⟨_, rfl⟩
 have HI : Hid (RT w ((((w.alloc (.cells (wds s.words).toArray 153)).alloc (.cells (wds Sha.table).toArray 155)).alloc (.cells zero8 153)).alloc (.cells zero64 155)) r S K V s.words (Sha.lay bs 0)) := by
  subst hr; subst hS; subst hK; subst hV
  have h4 := blocks4 w (.cells (wds s.words).toArray 153) (.cells (wds Sha.table).toArray 155) (.cells zero8 153) (.cells zero64 155)
  refine ⟨h4.2.2.1, h4.1, h4.2.1, h4.2.2.2, rfl, rfl, Sha.lay_words bs 0, words_ok hs, ?_, by omega⟩
  ·exact ((((Below.refl _ _).alloc (Nat.le_refl _) _).alloc (by simp) _).alloc (by simp; omega) _).alloc (by simp; omega) _
 have HC : Hid (∀ i, i < 64 -> w.cell? ⟨b, o + i, none⟩ = some (.int .u8 (bs.getD i 0).toNat)) := hc
 have HB : Hid (b < w.heap.size) := hb
 clear hc hb
 go_enter Tryz.func104, Tryz.ntmps104
 go_wp2
 rw [<-hV, <-hr, <-hK, <-hS]
 clear hS hK hr hV
 generalize (((w.alloc _).alloc _).alloc _).alloc _ = w1 at HI ⊢
 go_loopw [8, 9] (fun x y wr => ∃ t : Nat, t <= 16 ∧ x = .int .i64 t ∧ Hid (RT w wr r S K V s.words (Sha.lay bs t))) (fun x y wr => 16 - (intOf x).toNat)
 case atStart => exact ⟨0, by omega, rfl, HI⟩
 case round =>
  clear HI
  obtain ⟨t, ht, rfl, HR⟩ := hrel
  by_cases hlt : t < 16
  ·have HR0 : Hid (RT w wr r S K V s.words ((Sha.lay bs t).set t (pw bs t 0))) := by
    show RT _ _ _ _ _ _ _ _
    rw [lay_set_zero bs t (by omega)]; exact HR.out
   clear HR
   have hd : decide ((t : Int) < 16) = true := by simp; omega
   go_wp2
   go_hide hQ
   go_loopw [9] (fun y wr => ∃ i : Nat, i <= 4 ∧ y = .int .i64 i ∧ Hid (RT w wr r S K V s.words ((Sha.lay bs t).set t (pw bs t i)))) (fun y wr => 4 - (intOf y).toNat)
   case atStart => exact ⟨0, by omega, rfl, HR0⟩
   case round =>
    clear HR0
    obtain ⟨i, hi, rfl, HR⟩ := hrel
    by_cases hli : i < 4
    ·obtain ⟨j, hj⟩ : ∃ j, j = 4 * t + i := ⟨_, rfl⟩
     obtain ⟨j4, hj4⟩ : ∃ j, j = 4 * t := ⟨_, rfl⟩
     have lj : (j : Int) < 64 := by omega
     have lt : (t : Int) < 64 := by omega
     have e1 : IntKind.i64.wrap (4 * (t : Int)) = j4 := by rw [IntWalk.i64_in _ (by omega)]; omega
     have e2 : IntKind.i64.wrap ((j4 : Int) + (i : Int)) = j := by rw [IntWalk.i64_in _ (by omega)]; omega
     have cb : wr.cell? ⟨b, o + j, none⟩ = some (.int .u8 (bs.getD j 0).toNat) := (HR.out.below.cell (p := ⟨b, o + j, none⟩) HB.out).trans (HC.out j (by omega))
     have ct := HR.out.cellV t (by omega)
     have ft := HR.out.frozenV t
     have hp : pw bs t i < 16777216 := by
      have h1 := pw_lt bs t i
      have h2 : 256 ^ i <= 256 ^ 3 := Nat.pow_le_pow_right (by omega) (by omega)
      omega
     have HP : Hid (pw bs t (i + 1) = pw bs t i * 256 + (bs.getD j 0).toNat) := by show _ = _; rw [hj]; rfl
     rw [set_get _ _ _ (by rw [Sha.lay_len]; omega)] at ct
     have HS : ∀ v : Nat, v < 4294967296 -> Hid (RT w (wr.drew.setCell ⟨V, t, none⟩ (.int .u32 v)) r S K V s.words ((Sha.lay bs t).set t v)) := fun v hv => by
      have := HR.out.drew.setV t v hv
      rwa [List.set_set] at this
     clear hj hj4
     have hby := (bs.getD j 0).toNat_lt
     generalize (bs.getD j 0).toNat = y at cb HP hby
     generalize pw bs t i = p at ct HP hp
     obtain ⟨m, hm⟩ : ∃ m, m = p * 256 := ⟨_, rfl⟩
     obtain ⟨n, hn⟩ : ∃ n, n = p * 256 + y := ⟨_, rfl⟩
     have s0 : IntKind.u32.wrap ((p : Int) * 256) = m := by rw [IntKind.wrap_u32']; omega
     have v0 := u32_in y (by omega)
     have o1 : bits .or .u32 (m : Int) (y : Int) = n := by
      have := or_join 8 p y (by omega) (by omega)
      rw [show 2 ^ 8 * p = m by omega] at this
      rw [this]; omega
     have HS2 : Hid (RT w (wr.drew.setCell ⟨V, t, none⟩ (.int .u32 n)) r S K V s.words ((Sha.lay bs t).set t (pw bs t (i + 1)))) := by
      have := HS n (by omega)
      rw [HP.out, <-hn]; exact this
     clear hm hn HS hby HP
     go_wp2
     go_still_tail 15, Tryz.followsD
     rw [World.drew_eq]
     go_wp2
     go_roundw
     case rel => first | exact ⟨i + 1, by omega, by go_num, HS2⟩ | ((repeat apply Exists.intro); exact ⟨⟨i + 1, by omega, by go_num, HS2⟩, rfl⟩)
     case measure => simp [intOf]; omega
    ·obtain rfl : i = 4 := by omega
     have HS2 : Hid (RT w wr r S K V s.words (Sha.lay bs (t + 1))) := by
      have := HR.out
      rw [lay_set_four] at this; exact this
     go_wp2
     subst hQ
     go_wp2
     go_roundw
     case rel => exact ⟨t + 1, by omega, by go_num, HS2⟩
     case measure => simp [intOf]; omega
  ·obtain rfl : t = 16 := by omega
   clear hlt ht HC hl HB
   go_wp2
   go_loopw [10, 11, 12] (fun x y z wr => ∃ t : Nat, 16 <= t ∧ t <= 64 ∧ x = .int .i64 t ∧ Hid (RT w wr r S K V s.words (Sha.more (Sha.lay bs 16) (t - 16)))) (fun x y z wr => 64 - (intOf x).toNat)
   case atStart => exact ⟨16, by omega, by omega, rfl, HR⟩
   case round =>
    clear HR
    obtain ⟨t, ht0, ht, rfl, HR⟩ := hrel
    by_cases hlt : t < 64
    ·obtain ⟨t2, h2⟩ : ∃ j, j = t - 2 := ⟨_, rfl⟩
     obtain ⟨t15, h15⟩ : ∃ j, j = t - 15 := ⟨_, rfl⟩
     obtain ⟨t7, h7⟩ : ∃ j, j = t - 7 := ⟨_, rfl⟩
     obtain ⟨t16, h16⟩ : ∃ j, j = t - 16 := ⟨_, rfl⟩
     have i2 : (t : Int) - 2 = t2 := by omega
     have i15 : (t : Int) - 15 = t15 := by omega
     have e7 : IntKind.i64.wrap ((t : Int) - 7) = t7 := by rw [IntWalk.i64_in _ (by omega)]; omega
     have e16 : IntKind.i64.wrap ((t : Int) - 16) = t16 := by rw [IntWalk.i64_in _ (by omega)]; omega
     have l2 : (t2 : Int) < 64 := by omega
     have l15 : (t15 : Int) < 64 := by omega
     have l7 : (t7 : Int) < 64 := by omega
     have l16 : (t16 : Int) < 64 := by omega
     have lt : (t : Int) < 64 := by omega
     have n7 : t7 ≠ t := by omega
     have n16 : t16 ≠ t := by omega
     have c2 := HR.out.cellV t2 (by omega)
     have c15 := HR.out.cellV t15 (by omega)
     have c7 := HR.out.cellV t7 (by omega)
     have c16 := HR.out.cellV t16 (by omega)
     have ct := HR.out.cellV t (by omega)
     have ft := HR.out.frozenV t
     have hW := HR.out.wds
     have b2 := hW t2
     have b15 := hW t15
     have b7 := hW t7
     have b16 := hW t16
     have HM : Hid (Sha.more (Sha.lay bs 16) (t + 1 - 16) = (Sha.more (Sha.lay bs 16) (t - 16)).set t (Sha.grow ((Sha.more (Sha.lay bs 16) (t - 16)).getD t2 0) ((Sha.more (Sha.lay bs 16) (t - 16)).getD t7 0) ((Sha.more (Sha.lay bs 16) (t - 16)).getD t15 0) ((Sha.more (Sha.lay bs 16) (t - 16)).getD t16 0))) := by
      show _ = _
      rw [show t + 1 - 16 = (t - 16) + 1 by omega]
      simp only [Sha.more]
      rw [show 16 + (t - 16) = t by omega, show 14 + (t - 16) = t2 by omega, show 9 + (t - 16) = t7 by omega, show 1 + (t - 16) = t15 by omega, show t - 16 = t16 by omega]
     clear h2 h15 h7 h16 hW
     generalize (Sha.more (Sha.lay bs 16) (t - 16)).getD t2 0 = p at c2 b2 HM
     generalize (Sha.more (Sha.lay bs 16) (t - 16)).getD t15 0 = q at c15 b15 HM
     generalize (Sha.more (Sha.lay bs 16) (t - 16)).getD t7 0 = g at c7 b7 HM
     generalize (Sha.more (Sha.lay bs 16) (t - 16)).getD t16 0 = v at c16 b16 HM
     generalize (Sha.more (Sha.lay bs 16) (t - 16)).getD t 0 = old at ct
     go_wp2
     clear i2 i15 c2 c15
     have q1 := late_bits b2
     have q2 := early_bits b15
     have q3 := u32_add
     go_region_held3 (fun w' => w'.cell? ⟨V, t7, none⟩ = some (.int .u32 g) ∧ w'.cell? ⟨V, t16, none⟩ = some (.int .u32 v)) (first | (simp [*]; done) | (refine ⟨?_, ?_⟩ <;> (rw [World.cell?_setCell_other _ _ _ _ (by intro e; injection e; omega)]; simp [*]))) (first | (go_at_call_of 119 (Value.int IntKind.i64 17); refine (rturned_ok p 17 _ b2 (by omega) (by omega)).mono ?_; rintro e w' ⟨rfl, n1, rfl⟩) | (go_at_call_of 119 (Value.int IntKind.i64 19); refine (rturned_ok p 19 _ b2 (by omega) (by omega)).mono ?_; rintro e w' ⟨rfl, n2, rfl⟩) | (go_at_call_of 119 (Value.int IntKind.i64 7); refine (rturned_ok q 7 _ b15 (by omega) (by omega)).mono ?_; rintro e w' ⟨rfl, n3, rfl⟩) | (go_at_call_of 119 (Value.int IntKind.i64 18); refine (rturned_ok q 18 _ b15 (by omega) (by omega)).mono ?_; rintro e w' ⟨rfl, n4, rfl⟩))
     have HS : Hid (RT w ((wr.drewN (1 + n1 + n2 + n3 + n4)).setCell ⟨V, t, none⟩ (.int .u32 (Sha.add (Sha.add (Sha.add (Sha.late p) g) (Sha.early q)) v : Nat))) r S K V s.words (Sha.more (Sha.lay bs 16) (t + 1 - 16))) := by
      have := (HR.out.drewN (1 + n1 + n2 + n3 + n4)).setV t (Sha.grow p g q v) (Sha.grow_lt _ _ _ _)
      show RT _ _ _ _ _ _ _ _
      rw [HM.out]; exact this
     go_wp2
     go_roundw
     case rel => first | exact ⟨t + 1, by omega, by omega, by go_num, HS⟩ | ((repeat apply Exists.intro); exact ⟨⟨t + 1, by omega, by omega, by go_num, HS⟩, rfl⟩)
     case measure => simp [intOf]; omega
    ·obtain rfl : t = 64 := by omega
     have HW : Hid (RT w wr r S K V s.words (Sha.spread bs)) := HR.out
     clear HR hlt ht ht0
     obtain ⟨Z, hZ⟩ : ∃ Z, Z = wr.heap.size := ⟨_, rfl⟩
     have h1 := HW.out.sta
     have hz0 : (wr.alloc (.cells zero8 153)).heap[wr.heap.size]? = some (.cells zero8 153 (0, 0)) := heap_alloc_new _ _
     have HW2 : Hid (RT w ((wr.alloc (.cells zero8 153)).setRow wr.heap.size (wds s.words).toArray) r S K V s.words (Sha.spread bs)) := by
      refine HW.out.kept (l := [wr.heap.size]) ?_ (fun i hi => ?_)
      ·exact ((Kept.refl _ _).alloc _).trans (l2 := [wr.heap.size]) ⟨rfl, rfl, rfl, by simp, fun k _ hn => setRow_other _ _ _ _ (by simpa using hn)⟩ (by simp)
      ·simp only [List.mem_singleton] at hi
       subst hi
       exact (gs HW.out.arr).1
     have HZ : Hid (V < Z) := by rw [hZ]; exact (gs HW.out.arr).1
     have HQ0 : Hid (((wr.alloc (.cells zero8 153)).setRow wr.heap.size (wds s.words).toArray).heap[Z]? = some (.cells (wds s.words).toArray 153 (0, 0))) := by
      show _ = _
      rw [hZ]; exact setRow_heap _ _ _ _ _ _ hz0
     go_wp2_with (first | refine wpList_load_row rfl 153 (.tmp 3) rfl S rfl 153 _ (0, 0) _ h1 Tryz.underlying153 rfl Tryz.info8 ?_ | refine wpList_store_rowTo rfl 153 (.tmp 13) (.tmp 84) rfl rfl wr.heap.size (wds s.words).toArray rfl rfl 153 zero8 hz0 Tryz.info8 (by kernel_rfl) (by kernel_rfl) ?_)
     rw [<-hZ] at HW2 HQ0 ⊢
     clear hZ h1 hz0 HW
     generalize World.setRow _ _ _ = w5 at HW2 HQ0 ⊢
     have hsp := Sha.spread_words bs
     have hspl := Sha.spread_len bs
     have HT : Hid (Sha.turn s bs = Sha.plus s (Sha.rounds (Sha.spread bs) s 64)) := rfl
     generalize Sha.spread bs = W at hsp hspl HW2 HT
     clear hz64 hz
     go_loopw [14, 15, 16, 17, 18] (fun i _ _ _ _ wr => ∃ (t : Nat) (q : Sha.S8), t <= 64 ∧ i = .int .i64 t ∧ Hid (q = Sha.rounds W s t) ∧ Hid (RT w wr r S K V s.words W) ∧ Hid (wr.heap[Z]? = some (.cells (wds q.words).toArray 153 (0, 0)))) (fun i _ _ _ _ wr => 64 - (intOf i).toNat)
     case atStart => exact ⟨0, s, by omega, rfl, rfl, HW2, HQ0⟩
     case round =>
      clear HW2 HQ0
      obtain ⟨t, q, ht, rfl, HQ, HR, HZ1⟩ := hrel
      by_cases hlt : t < 64
      ·have hq : q.Ok := by rw [HQ.out]; exact Sha.rounds_ok hs W t
       have HN : Hid (Sha.rounds W s (t + 1) = Sha.rnd q (Sha.tb t) (W.getD t 0)) := by
        show _ = _
        rw [HQ.out]; rfl
       have ck := HR.out.cellK t hlt
       have cv := HR.out.cellV t hlt
       have lt : (t : Int) < 64 := by omega
       generalize Sha.tb t = kt at ck HN
       generalize W.getD t 0 = vt at cv HN
       have zc : ∀ i, wr.cell? ⟨Z, i, none⟩ = (wds q.words)[i]? := fun i => by rw [cell_of_row _ _ _ _ _ _ HZ1.out]; simp
       obtain ⟨qa, qb, qc, qd, qe, qf, qg, qh⟩ := q
       obtain ⟨ha, hb', hc, hd, he, hf, hg, hh⟩ := hq
       dsimp only at ha hb' hc hd he hf hg hh
       have z0 : wr.cell? ⟨Z, 0, none⟩ = some (.int .u32 qa) := zc 0
       have z1 : wr.cell? ⟨Z, 1, none⟩ = some (.int .u32 qb) := zc 1
       have z2 : wr.cell? ⟨Z, 2, none⟩ = some (.int .u32 qc) := zc 2
       have z3 : wr.cell? ⟨Z, 3, none⟩ = some (.int .u32 qd) := zc 3
       have z4 : wr.cell? ⟨Z, 4, none⟩ = some (.int .u32 qe) := zc 4
       have z5 : wr.cell? ⟨Z, 5, none⟩ = some (.int .u32 qf) := zc 5
       have z6 : wr.cell? ⟨Z, 6, none⟩ = some (.int .u32 qg) := zc 6
       have z7 : wr.cell? ⟨Z, 7, none⟩ = some (.int .u32 qh) := zc 7
       clear zc
       have q1 := big1_bits he
       have q2 := ch_bits he hf hg
       have q3 := u32_add
       have q4 := big0_bits ha
       have q5 := maj_bits ha hb' hc
       have q6 := u32_add_mod
       have hsg : IntKind.u32.signed = false := rfl
       go_wp2
       go_quiet (first | (go_at_call_of 119 (Value.int IntKind.i64 6); exact Calls.quiet_of (rturned_ok qe 6 _ he (by omega) (by omega))) | (go_at_call_of 119 (Value.int IntKind.i64 11); exact Calls.quiet_of (rturned_ok qe 11 _ he (by omega) (by omega))) | (go_at_call_of 119 (Value.int IntKind.i64 25); exact Calls.quiet_of (rturned_ok qe 25 _ he (by omega) (by omega))))
       have HR2 : Hid (RT w (wr.drewN nq) r S K V s.words W) := HR.out.drewN nq
       have HZ2 : Hid ((wr.drewN nq).heap[Z]? = _) := HZ1.out
       have y0 : (wr.drewN nq).cell? ⟨Z, 0, none⟩ = _ := z0
       have y1 : (wr.drewN nq).cell? ⟨Z, 1, none⟩ = _ := z1
       have y2 : (wr.drewN nq).cell? ⟨Z, 2, none⟩ = _ := z2
       have y3 : (wr.drewN nq).cell? ⟨Z, 3, none⟩ = _ := z3
       have y4 : (wr.drewN nq).cell? ⟨Z, 4, none⟩ = _ := z4
       have y5 : (wr.drewN nq).cell? ⟨Z, 5, none⟩ = _ := z5
       have y6 : (wr.drewN nq).cell? ⟨Z, 6, none⟩ = _ := z6
       have y7 : (wr.drewN nq).cell? ⟨Z, 7, none⟩ = _ := z7
       clear HR HZ1 ck cv z0 z1 z2 z3 z4 z5 z6 z7 q1 q2
       generalize wr.drewN nq = w6 at HR2 HZ2 y0 y1 y2 y3 y4 y5 y6 y7 ⊢
       go_wp2
       go_quiet (first | (go_at_call_of 119 (Value.int IntKind.i64 2); exact Calls.quiet_of (rturned_ok qa 2 _ ha (by omega) (by omega))) | (go_at_call_of 119 (Value.int IntKind.i64 13); exact Calls.quiet_of (rturned_ok qa 13 _ ha (by omega) (by omega))) | (go_at_call_of 119 (Value.int IntKind.i64 22); exact Calls.quiet_of (rturned_ok qa 22 _ ha (by omega) (by omega))))
       have HR3 : Hid (RT w (w6.drewN nq) r S K V s.words W) := HR2.out.drewN nq
       have HZ3 : Hid ((w6.drewN nq).heap[Z]? = _) := HZ2.out
       have x0 : (w6.drewN nq).cell? ⟨Z, 0, none⟩ = _ := y0
       have x1 : (w6.drewN nq).cell? ⟨Z, 1, none⟩ = _ := y1
       have x2 : (w6.drewN nq).cell? ⟨Z, 2, none⟩ = _ := y2
       have x3 : (w6.drewN nq).cell? ⟨Z, 3, none⟩ = _ := y3
       have x4 : (w6.drewN nq).cell? ⟨Z, 4, none⟩ = _ := y4
       have x5 : (w6.drewN nq).cell? ⟨Z, 5, none⟩ = _ := y5
       have x6 : (w6.drewN nq).cell? ⟨Z, 6, none⟩ = _ := y6
       have x7 : (w6.drewN nq).cell? ⟨Z, 7, none⟩ = _ := y7
       clear HR2 HZ2 y0 y1 y2 y3 y4 y5 y6 y7 q4 q5
       generalize w6.drewN nq = w7 at HR3 HZ3 x0 x1 x2 x3 x4 x5 x6 x7 ⊢
       have HX : Hid (Sha.add (Sha.add (Sha.add (Sha.add qh (Sha.big1 qe)) (Sha.ch qe qf qg)) kt) vt = Sha.xs qh qe qf qg kt vt) := rfl
       have HY : Hid (Sha.add (Sha.big0 qa) (Sha.maj qa qb qc) = Sha.ys qa qb qc) := rfl
       generalize Sha.add (Sha.add (Sha.add (Sha.add qh (Sha.big1 qe)) (Sha.ch qe qf qg)) kt) vt = X at HX ⊢
       generalize Sha.add (Sha.big0 qa) (Sha.maj qa qb qc) = Y at HY ⊢
       have HN2 : Hid (Sha.rounds W s (t + 1) = ⟨Sha.add X Y, qa, qb, qc, Sha.add qd X, qe, qf, qg⟩) := by
        show _ = _
        rw [HN.out, HX.out, HY.out]; rfl
       have hold := HZ3.out
       have hone : (wds [Sha.add X Y, qa, qb, qc, Sha.add qd X, qe, qf, qg]).toArray.all (·.oneCell') = true := Array.all_eq_true_iff_forall_mem.2 fun v hv => wds_oneCell _ v (by simpa using hv)
       have HR4 : Hid (RT w (w7.setRow Z (wds [Sha.add X Y, qa, qb, qc, Sha.add qd X, qe, qf, qg]).toArray) r S K V s.words W) :=
        HR3.out.kept (l := [Z]) ⟨rfl, rfl, rfl, by simp, fun k _ hn => setRow_other _ _ _ _ (by simpa using hn)⟩ (by simpa using HZ.out)
       have HZ4 : Hid ((w7.setRow Z (wds [Sha.add X Y, qa, qb, qc, Sha.add qd X, qe, qf, qg]).toArray).heap[Z]? = some (.cells (wds [Sha.add X Y, qa, qb, qc, Sha.add qd X, qe, qf, qg]).toArray 153 (0, 0))) := setRow_heap _ _ _ _ _ _ HZ3.out
       go_wp2_with (first | refine wpList_buildTo rfl 153 _ rfl (some 166) rfl (wds [Sha.add X Y, qa, qb, qc, Sha.add qd X, qe, qf, qg]).toArray (by kernel_rfl) ?_ | refine wpList_store_rowTo rfl 153 (.tmp 13) (.tmp 166) rfl rfl Z (wds [Sha.add X Y, qa, qb, qc, Sha.add qd X, qe, qf, qg]).toArray rfl rfl 153 _ hold Tryz.info8 rfl hone ?_)
       go_roundw
       case rel => exact ⟨t + 1, _, by omega, by go_num, HN2.out.symm, HR4, HZ4⟩
       case measure => simp [intOf]; omega
      ·obtain rfl : t = 64 := by omega
       have hq : q.Ok := by rw [HQ.out]; exact Sha.rounds_ok hs W 64
       have HF5 : Hid (RT w wr r S K V (summed s.words q.words 0) W) := HR.out
       have HT2 : Hid (Sha.turn s bs = Sha.plus s q) := by rw [HQ.out]; exact HT.out
       clear HR HT HQ hlt ht
       go_wp2
       go_loopw [19] (fun i wr => ∃ k : Nat, k <= 8 ∧ i = .int .i64 k ∧ Hid (RT w wr r S K V (summed s.words q.words k) W) ∧ Hid (wr.heap[Z]? = some (.cells (wds q.words).toArray 153 (0, 0)))) (fun i wr => 8 - (intOf i).toNat)
       case atStart => exact ⟨0, by omega, rfl, HF5, HZ1⟩
       case round =>
        clear HF5 HZ1
        obtain ⟨k, hk, rfl, HR, HZ1⟩ := hrel
        by_cases hlt : k < 8
        ·have ck := HR.out.cellS k hlt
         have fk := HR.out.frozenS k
         have zk : wr.cell? ⟨Z, k, none⟩ = some (.int .u32 (q.words.getD k 0 : Nat)) := by rw [cell_of_row _ _ _ _ _ _ HZ1.out, List.getElem?_toArray, wds_at (by exact hlt)]
         have lt : (k : Int) < 8 := by omega
         have HN : Hid (RT w (wr.drew.setCell ⟨S, k, none⟩ (.int .u32 (Sha.add ((summed s.words q.words k).getD k 0) (q.words.getD k 0) : Nat))) r S K V (summed s.words q.words (k + 1)) W) :=
          HR.out.drew.setS k _ (Sha.add_lt _ _)
         have HZ2 : ∀ v, Hid ((wr.drew.setCell ⟨S, k, none⟩ v).heap[Z]? = some (.cells (wds q.words).toArray 153 (0, 0))) := fun v => by
          have := HR.out.ps; have := HZ.out
          show _ = _
          rw [heap_setCell_other _ _ _ _ (by show Z ≠ S; omega)]; exact HZ1.out
         generalize (summed s.words q.words k).getD k 0 = x at ck HN
         generalize q.words.getD k 0 = y at zk HN
         have q3 := u32_add
         clear HZ1 HR
         go_wp2
         go_still_tail 9, Tryz.followsD
         rw [World.drew_eq]
         go_wp2
         go_roundw
         case rel => first | exact ⟨k + 1, by omega, by go_num, HN, HZ2 _⟩ | ((repeat apply Exists.intro); exact ⟨⟨k + 1, by omega, by go_num, HN, HZ2 _⟩, rfl⟩)
         case measure => simp [intOf]; omega
        ·obtain rfl : k = 8 := by omega
         have h1 := HR.out.sta
         have h2 := HR.out.res
         have hlen : (wds (summed s.words q.words 8)).toArray.size = 8 := by simp [wds_len, HR.out.llen]
         have hinf : (Tryz.prog.info? 153).map (·.size) = some (wds (summed s.words q.words 8)).toArray.size := by rw [hlen]; exact Tryz.info8
         have hone : (wds (summed s.words q.words 8)).toArray.all (·.oneCell') = true := Array.all_eq_true_iff_forall_mem.2 fun v hv => wds_oneCell _ v (by simpa using hv)
         have hz0 : zero8.size = (wds (summed s.words q.words 8)).toArray.size := by rw [hlen]; rfl
         have HFIN : Hid (summed s.words q.words 8 = (Sha.turn s bs).words) := by
          show _ = _
          rw [HT2.out, summed_all]
         generalize summed s.words q.words 8 = F at h1 hlen hinf hone hz0 HFIN HR
         go_wp2_with (first | refine wpList_load_row rfl 153 (.tmp 3) rfl S rfl 153 _ (0, 0) _ h1 Tryz.underlying153 rfl hinf ?_ | refine wpList_store_rowTo rfl 153 (.tmp 6) (.tmp 180) rfl rfl r (wds F).toArray rfl rfl 153 zero8 h2 hinf hz0 hone ?_)
         exact ret_row rfl rfl r 153 _ (0, 0) _ rfl (setRow_heap _ _ _ _ _ _ h2) Tryz.underlying153 rfl hinf ⟨by rw [HFIN.out], below_row HR.out.below (by have := HR.out.ps; omega) _⟩
end

section
theorem src_of {w : World} {ad : Addr} {m : List UInt8} (hs : Sl w (some ad) m) : ∀ j u, (bys m)[j]? = some u -> w.cell? (ad.add j) = some u := by
 by_cases h0 : m = []
 ·subst h0
  intro j u hu
  simp [bys] at hu
 ·obtain ⟨b, off, e', hb, hc⟩ := hs.open h0
  cases e'
  exact Sl.cells hc
theorem wpList_append_fresh (w : World) {ops : Array Oper} {rest : List Oper} {o : Oper} {a : Act} {Q : Exit -> Act -> World -> Prop} (hgd : o.guard = none) (s x : Operand)
  (ho : o.op = .call { callee := .builtin .append, args := #[s, x], argTypes := #[22, 22] }) (base g : Nat) (hs : a.eval s = .slice (some ⟨g, 0, none⟩) 0 0)
  (hown : w.ownsRow base 5 1 (.slice (some ⟨g, 0, none⟩) 0 0) 0 []) (da : Option Addr) (m dc : Nat) (ds : List UInt8) (hx : a.eval x = .slice da m dc) (hsl : Sl w da ds) (hm : ds.length = m) (hnl : da = none -> ds = [] ∧ dc = 0) (b1 : m <= 140737488351232) (hbase : base <= w.heap.size)
  (hK : ∀ g' c' w', w'.ownsRow base 5 1 (.slice (some ⟨g', 0, none⟩) m c') m (bys ds) -> w.grownBy w' (some g) -> wpList Tryz.prog ops Q rest (a.put o.dst (.slice (some ⟨g', 0, none⟩) m c')) w') :
  wpList Tryz.prog ops Q (o :: rest) a w := by
 obtain ⟨i0, hi, hz0, hz1, hz2⟩ := info_parts Tryz.infoByteD
 cases da with
 | none =>
  obtain ⟨rfl, rfl⟩ := hnl rfl
  subst hm
  exact wpList_append_own_none hgd s x 22 ho base 5 i0 1 Tryz.underlying22 hi _ 0 _ hs hown hx (hK g 0 w hown (World.grownBy.refl w _))
 | some ad =>
  refine wpList_append_own w hgd s x 22 ho base 5 i0 (.int .u8 0) 1 1 Tryz.underlying22 hi hz0 hz1 hz2 rfl (by decide) _ 0 [] hs hown ad m dc (bys ds) hx (by rw [bys_length, hm, Nat.mul_one]) (src_of hsl) (bys_oneCell _) (by unfold maxLen; omega) (by omega) hbase ?_
  intro v' w' h1 h2 h3
  rw [Nat.zero_add, List.nil_append] at h1
  obtain ⟨g', c', hv, _⟩ := own_sl h1 (fun e => by have := (h3.1 e).1; cases this)
  subst hv
  exact hK g' c' w' h1 h2
end

end Go.Proofs.YtmklodligplbaaaGreat
