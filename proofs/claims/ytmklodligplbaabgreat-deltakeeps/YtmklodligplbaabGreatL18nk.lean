import Derived.Test.YtmklodligplbaabGreatX18dk
import Derived.Test.YtmklodligplbaabGreatRf1k
import Derived.Test.YtmklodligplbaabGreatDr1k
open Go.RowKit
set_option linter.unusedVariables false
set_option linter.unusedSimpArgs false
set_option maxRecDepth 100000
set_option maxHeartbeats 0
namespace Go.Proofs.YtmklodligplbaabGreat
section
open Dlt
theorem idl_pad (F : List UInt8) : ∀ i, i <= 32 -> i <= F.length -> idl F i = F.take i ++ List.replicate (32 - i) 0
 | 0, _, _ => by simp [idl]
 | i + 1, h, hF => by
  rw [idl, idl_pad F i (by omega) (by omega), List.set_append_right _ _ (by simp; omega), List.length_take, Nat.min_eq_left (by omega), Nat.sub_self]
  obtain ⟨j, hj⟩ : ∃ j, 32 - i = j + 1 := ⟨31 - i, by omega⟩
  rw [hj, List.replicate_succ, List.set_cons_zero, show 32 - (i + 1) = j by omega, List.take_succ_eq_append_getElem (by omega), List.append_assoc]
  simp [List.getElem?_eq_getElem (show i < F.length by omega)]
theorem idl_min (F : List UInt8) : idl F (min F.length 32) = pad F := by
 rw [idl_pad F _ (by omega) (by omega)]
 unfold pad
 by_cases h : F.length <= 32
 ·rw [Nat.min_eq_left h, List.take_of_length_le (Nat.le_refl _), List.take_of_length_le h]
 ·rw [Nat.min_eq_right (by omega), Nat.sub_self, show 32 - F.length = 0 by omega]
theorem rwhole_ok (ao : Option Addr) (n cap : Nat) (xs : List UInt8) (w : World) (hn : xs.length = n) (hm : n <= 4611686018427387904) (hs : Sl w ao xs) :
  Calls Tryz.prog 36 #[.slice ao n cap] w fun e w' => e = .returned (.agg (bys (pad xs)).toArray) ∧ Kept [] w w' := by
 have hz := Tryz.zeroID
 obtain ⟨r, hr⟩ : ∃ r, r = w.heap.size := ⟨_, rfl⟩
 obtain ⟨g, hg⟩ : ∃ r, r = w.heap.size + 1 := ⟨_, rfl⟩
 have hg1 : ((w.alloc (.cells zero32 23)).alloc (.cells zero32 23)).heap[w.heap.size + 1]? = some (.cells zero32 23 (0, 0)) := heap_alloc2_new _ _ _
 have hr1 : ((w.alloc (.cells zero32 23)).alloc (.cells zero32 23)).heap[w.heap.size]? = some (.cells zero32 23 (0, 0)) := heap_alloc2_old _ _ _
 have hB1 : Below w.heap.size w ((w.alloc (.cells zero32 23)).alloc (.cells zero32 23)) := ((Below.refl _ _).alloc (Nat.le_refl _) _).alloc (by simp) _
 have HI : Hid (Fill32 w ((w.alloc (.cells zero32 23)).alloc (.cells zero32 23)) 23 r g (idl xs 0)) := by
  refine ⟨by rw [hr]; exact hr1, by rw [hg]; exact hg1, by simp [idl], hB1, by omega⟩
 have HS := hide hs
 have HX := hide hn
 clear hg1 hr1 hB1 hs hn
 go_enter Tryz.func36, Tryz.ntmps36
 go_upto_region 2 with (fail)
 generalize (w.alloc (.cells zero32 23)).alloc (.cells zero32 23) = w1 at HI ⊢
 rw [<-hg, <-hr]
 clear hr hg hz
 go_wp2
 go_loopw [4] (fun x wr => ∃ i : Nat, i <= n ∧ i <= 32 ∧ x = .int .i64 i ∧ Hid (Fill32 w wr 23 r g (idl xs i))) (fun x wr => 32 - (intOf x).toNat)
 case atStart => exact ⟨0, by omega, by omega, rfl, HI⟩
 case round =>
  clear HI
  obtain ⟨i, hi, hi32, rfl, HI⟩ := hrel
  have FIN : i = min xs.length 32 -> Hid (idl xs i = pad xs) := fun h => by rw [h]; exact idl_min xs
  have FEND : i = min xs.length 32 -> Hid (∀ (a : Act), a.defers = [] -> a.tmps.getD 2 undef = .pointer (some ⟨r, 0, none⟩) -> bodyPost Tryz.prog Tryz.f36 (fun e w' => e = .returned (.agg (bys (pad xs)).toArray) ∧ Kept [] w w') .ret a (wr.setRow r (bys (idl xs i)).toArray)) := fun hm a hd hp => by
   have hinf : (Tryz.prog.info? 23).map (·.size) = some (bys (idl xs i)).toArray.size := by rw [show (bys (idl xs i)).toArray.size = 32 by simp [bys_length, HI.out.len]]; exact Tryz.infoID
   exact ret_row rfl hd r 23 _ (0, 0) _ hp (setRow_heap _ _ _ _ _ _ HI.out.res) Tryz.underlying23 rfl hinf ⟨by rw [(FIN hm).out], Kept.of_below (below_row HI.out.below HI.out.ps.1 _)⟩
  by_cases hlt : i < n
  ·by_cases hl2 : i < 32
   ·have hne : xs ≠ [] := by rintro rfl; have := HX.out; simp at this; omega
    obtain ⟨b, off, rfl, hbl, hcell⟩ := HS.out.open hne
    have cf : wr.cell? ⟨b, off + i, none⟩ = some (.int .u8 (xs.getD i 0).toNat) := by
     have hk : Kept [] w wr := Kept.of_below HI.out.below
     exact hk.cellOf (hcell i (by rw [HX.out]; exact hlt)) (by simp)
    have ci := HI.out.cell i hl2
    have fi := HI.out.frozen i
    have HS2 : Hid (Fill32 w (wr.setCell ⟨g, i, none⟩ (.int .u8 (xs.getD i 0).toNat)) 23 r g (idl xs (i + 1))) := HI.out.set i _
    clear HI hne hbl hcell FIN FEND
    generalize (idl xs i).getD i 0 = old at ci
    generalize xs.getD i 0 = x at cf HS2
    go_wp2
    go_roundw
    case rel => exact ⟨i + 1, by omega, by omega, by go_num, HS2⟩
    case measure => simp [intOf]; omega
   ·have hm2 := FEND (by rw [HX.out]; omega)
    have h1 := HI.out.arr
    have h2 := HI.out.res
    have hlen : (bys (idl xs i)).toArray.size = 32 := by simp [bys_length, HI.out.len]
    have hinf : (Tryz.prog.info? 23).map (·.size) = some (bys (idl xs i)).toArray.size := by rw [hlen]; exact Tryz.infoID
    have hz0 : zero32.size = (bys (idl xs i)).toArray.size := by rw [hlen]; rfl
    have hone := bys_all (idl xs i)
    clear FIN FEND HI hlen
    generalize idl xs i = I at h1 hinf hone hz0 hm2
    go_wp2_with (first | refine wpList_load_row rfl 23 (.tmp 3) rfl g rfl 23 _ (0, 0) _ h1 Tryz.underlying23 rfl hinf ?_ | refine wpList_store_rowTo rfl 23 (.tmp 2) (.tmp 21) rfl rfl r (bys I).toArray rfl rfl 23 zero32 h2 hinf hz0 hone ?_)
    exact hm2.out _ rfl rfl
  ·obtain rfl : i = n := by omega
   have hm2 := FEND (by rw [HX.out]; omega)
   have h1 := HI.out.arr
   have h2 := HI.out.res
   have hlen : (bys (idl xs i)).toArray.size = 32 := by simp [bys_length, HI.out.len]
   have hinf : (Tryz.prog.info? 23).map (·.size) = some (bys (idl xs i)).toArray.size := by rw [hlen]; exact Tryz.infoID
   have hz0 : zero32.size = (bys (idl xs i)).toArray.size := by rw [hlen]; rfl
   have hone := bys_all (idl xs i)
   clear FIN FEND HI hlen
   generalize idl xs i = I at h1 hinf hone hz0 hm2
   go_wp2_with (first | refine wpList_load_row rfl 23 (.tmp 3) rfl g rfl 23 _ (0, 0) _ h1 Tryz.underlying23 rfl hinf ?_ | refine wpList_store_rowTo rfl 23 (.tmp 2) (.tmp 21) rfl rfl r (bys I).toArray rfl rfl 23 zero32 h2 hinf hz0 hone ?_)
   exact hm2.out _ rfl rfl
end

section
open Dlt
theorem Rf.new {w : World} {ao : Option Addr} {n cap : Nat} {xs : List UInt8} (h : Sl w ao xs) (hn : xs.length = n) (hc : n <= cap) (hm : n <= 140737488355328) : Rf (w.alloc (.cells #[.slice ao n cap, .int .i64 0, .int .i64 0, .int .i64 0] 79)) w.heap.size ao cap xs 0 0 0 := by
 subst hn
 have hr := heap_new w (.cells #[.slice ao xs.length cap, .int .i64 0, .int .i64 0, .int .i64 0] 79)
 have hf := fun i => frozen_of_row (w.alloc (.cells #[.slice ao xs.length cap, .int .i64 0, .int .i64 0, .int .i64 0] 79)) w.heap.size i _ _ hr
 refine ⟨?_, ?_, ?_, ?_, hf 1, hf 2, hf 3, Nat.zero_le _, hc, hm, h.kept ((Kept.refl [] w).alloc _) (by simp), fun hne a ha => ?_⟩
 ·rw [cell_of_row _ _ _ _ _ _ hr]; rfl
 ·rw [cell_of_row _ _ _ _ _ _ hr]; rfl
 ·rw [cell_of_row _ _ _ _ _ _ hr]; rfl
 ·rw [cell_of_row _ _ _ _ _ _ hr]; rfl
 ·obtain ⟨b, off, e, hb, _⟩ := h.open hne
  rw [e] at ha
  injection ha with ha
  subst ha
  show b ≠ _
  omega
theorem Tryz.builtR (ao : Option Addr) (n c : Nat) (W : World) : (Instr.build 79 #[(0, .slice ao n c)]).run Tryz.prog W = .ok (.agg #[.slice ao n c, .int .i64 0, .int .i64 0, .int .i64 0]) W := by kernel_rfl
theorem ropened_long (ao : Option Addr) (n cap : Nat) (w : World) (h4 : n < 4 ∨ 131072 < n) :
  Calls Tryz.prog 32 #[.slice ao n cap] w fun e w' => (∃ v, e = .returned (.tuple #[v, .bool false])) ∧ Kept [] w w' := by
 by_cases h1 : n < 4
 ·clear h4
  go_enter Tryz.func32, Tryz.ntmps32
  go_wp2
  go_ret2
  exact ⟨⟨_, rfl⟩, Kept.refl _ _⟩
 ·have h2 : 131072 < n := by omega
  clear h4
  go_enter Tryz.func32, Tryz.ntmps32
  go_wp2
  go_ret2
  exact ⟨⟨_, rfl⟩, Kept.refl _ _⟩
theorem ropened_in (ao : Option Addr) (n cap m : Nat) (xs : List UInt8) (w : World) (h : InB8 w ao n cap xs) (hnm : n = m + 4) (hl : n <= 131072) (c : Bool) (hq : c = decide (Pure.be (xs.drop m) = Pure.sum (xs.take m))) :
  Calls Tryz.prog 32 #[.slice ao n cap] w fun e w' => e = .returned (.tuple #[.slice ao m cap, .bool c]) ∧ Kept [] w w' := by
 have h1 : ¬ n < 4 := by omega
 have h2 : ¬ 131072 < n := by omega
 have hle := h.le
 have hne : xs ≠ [] := by rintro rfl; have := h.len; simp at this; omega
 obtain ⟨b0, off, rfl, hb0, hcell⟩ := h.sl.open hne
 have e4 : n - m = 4 := by omega
 have hmc : ¬ cap < m := by omega
 have hmn : ¬ n < m := by omega
 have hce : ¬ cap = m := by omega
 have hsd : Sl w (some ⟨b0, off + m, none⟩) (xs.drop m) := by
  have h0 := h.sl.cut m 4 (by rw [h.len]; omega)
  rwa [List.take_of_length_le (by rw [List.length_drop, h.len]; omega)] at h0
 have hw4 : IntKind.i64.wrap ((n : Int) - 4) = (m : Int) := by rw [wrap64 (by omega) (by omega)]; omega
 have hcy := fun W => Tryz.cutBy W (some ⟨b0, off, none⟩) n cap m (by omega)
 have hbR := Tryz.builtR (some ⟨b0, off + m, none⟩) 4 (cap - m)
 have hd4 : (xs.drop m).length = 4 := by rw [List.length_drop, h.len]; omega
 have hrf0 := Rf.new hsd hd4 (by omega : 4 <= cap - m) (by omega)
 have hK := ka w (.cells #[.slice (some ⟨b0, off + m, none⟩) 4 (cap - m), .int .i64 0, .int .i64 0, .int .i64 0] 79)
 have HSL := hide h.sl
 have HLN := hide h.len
 obtain ⟨g, hg⟩ := nm (w.heap.size)
 rw [hg] at hrf0
 have HGW := hide hg
 clear h hd4 hsd hcell hne
 go_enter Tryz.func32, Tryz.ntmps32
 go_upto_region 5 with (refine wpList_buildRun8 rfl 79 #[(0, .tmp 19)] rfl #[(0, .slice (some ⟨b0, off + m, none⟩) 4 (cap - m))] (by simp [Act.eval]) _ (hbR _) ?_)
 clear hbR hg
 generalize w.alloc (.cells #[.slice (some ⟨b0, off + m, none⟩) 4 (cap - m), .int .i64 0, .int .i64 0, .int .i64 0] 79) = w1 at hrf0 hK ⊢
 have hrf : Rf (World.drew w1) g (some ⟨b0, off + m, none⟩) (cap - m) (xs.drop m) 0 0 0 := hrf0.drewN 1
 obtain ⟨x, hx⟩ : ∃ x : Nat, Pure.be (xs.drop m) = x := ⟨_, rfl⟩
 obtain ⟨y, hy⟩ : ∃ y : Nat, Pure.sum (xs.take m) = y := ⟨_, rfl⟩
 have HTF : Hid (∀ W, Rf W g (some ⟨b0, off + m, none⟩) (cap - m) (xs.drop m) 0 0 0 -> Calls Tryz.prog 33 #[.pointer (some ⟨g, 0, none⟩), .int .i64 4] W fun e w' => e = .returned (.int .i64 (x : Nat)) ∧ Kept [g] W w') := fun W hW => by
  have hd4 : (xs.drop m).length = 4 := by rw [List.length_drop, HLN.out]; omega
  refine (takefix_ok hW 4 (by omega) (by omega) (by omega)).mono fun e w' hh => ⟨?_, hh.2.1⟩
  rw [hh.1, List.drop_zero, List.take_of_length_le (by omega), hx]
 have HSU : Hid (∀ W, Kept [g] w1 W -> Calls Tryz.prog 76 #[.slice (some ⟨b0, off, none⟩) m cap] W fun e w' => e = .returned (.int .i64 (y : Nat)) ∧ Kept [] W w') := fun W hW => by
  have hs : Sl W (some ⟨b0, off, none⟩) (xs.take m) := by
   have h0 : Sl W (some ⟨b0, off, none⟩) xs := (HSL.out.kept hK (by simp)).kept hW (fun hne a ha => by
    obtain ⟨b, off, e, hb, _⟩ := HSL.out.open hne
    rw [e] at ha; injection ha with ha; subst ha
    have := HGW.out
    simp; omega)
   exact h0.take m
  refine (rcrc_n (some ⟨b0, off, none⟩) m cap (xs.take m) W (by rw [List.length_take, HLN.out]; omega) (by omega) hs).mono fun e w' hh => ⟨by rw [hh.1, hy], by rw [hh.2]; exact Kept.refl _ _⟩
 have HFK : Hid (∀ W, Kept [g] w1 W -> Kept [] w W) := fun W hW => hK.trans hW (fun i hi hl => by simp only [List.mem_singleton] at hi; have := HGW.out; omega)
 rw [hx, hy] at hq
 have HEQ : ((x : Int) == (y : Int)) = c := by rw [hq, Bool.eq_iff_iff]; simp; omega
 clear hrf0 hx hy hq hK HLN HSL HGW
 refine wp_region_held_drew (S := fun w' => Kept [g] w1 w') (by kernel_rfl) ((Kept.refl [g] w1).drew) (fun h0 => ?_)
 generalize World.drew w1 = v0 at h0 hrf ⊢
 refine t1 0 (.slice (some ⟨b0, off, none⟩) n cap) h0 ?_
 simp only [zz]
 refine t1 1 (.int .i64 m) h0 ?_
 simp only [zz]
 refine t2 2 (.slice (some ⟨b0, off, none⟩) m cap) rfl h0 ?_ (fun w hSw => by have c0 := hcy w; go_simp)
 simp only [zz]
 refine t1 3 (.pointer (some ⟨g, 0, none⟩)) h0 ?_
 simp only [zz]
 refine t1 5 (.slice (some ⟨b0, off, none⟩) n cap) h0 ?_
 simp only [zz]
 refine t1 6 (.int .i64 m) h0 ?_
 simp only [zz]
 refine t2 7 (.slice (some ⟨b0, off, none⟩) m cap) rfl h0 ?_ (fun w hSw => by have c0 := hcy w; go_simp)
 simp only [zz]
 refine rd 4 fun K hK => ?_
 go_simp
 refine (HTF.out v0 hrf).mono ?_
 rintro e v1 ⟨rfl, hk4⟩
 clear hrf
 refine hK.out _ _ (h0.tr hk4) (fun h1 => ?_)
 clear hK K
 try simp only [zz]
 refine rd 8 fun K hK => ?_
 go_simp
 refine (HSU.out v1 h1).mono ?_
 rintro e v2 ⟨rfl, hk8⟩
 clear hk4
 refine hK.out _ _ (h1.tr hk8) (fun h2 => ?_)
 clear hK K
 try simp only [zz]
 refine t2 9 (.bool c) rfl h2 ?_ (fun w hSw => by have c0 := HEQ; go_simp)
 simp only [zz]
 refine t1 10 (.slice (some ⟨b0, off, none⟩) m cap) h2 ?_
 simp only [zz]
 refine t1 11 (.bool c) h2 ?_
 simp only [zz]
 refine qd ?_
 go_wp2
 go_ret2
 exact ⟨rfl, HFK.out _ h2⟩
theorem ropened_ok (ao : Option Addr) (n cap : Nat) (xs : List UInt8) (w : World) (h : InB8 w ao n cap xs) :
  Calls Tryz.prog 32 #[.slice ao n cap] w fun e w' => (match openB xs with | some ys => e = .returned (.tuple #[.slice ao (n - 4) cap, .bool true]) ∧ ys = xs.take (n - 4) ∧ 4 <= n ∧ n <= 131072 | none => ∃ v, e = .returned (.tuple #[v, .bool false])) ∧ Kept [] w w' := by
 by_cases h1 : n < 4 ∨ 131072 < n
 ·have : openB xs = none := by unfold openB; rw [h.len, if_pos h1]
  rw [this]
  exact ropened_long ao n cap w h1
 ·have hin := ropened_in ao n cap (n - 4) xs w h (by omega) (by omega) _ rfl
  by_cases h2 : Pure.be (xs.drop (n - 4)) = Pure.sum (xs.take (n - 4))
  ·have : openB xs = some (xs.take (n - 4)) := by unfold openB; rw [h.len, if_neg h1, if_pos h2]
   rw [this]
   refine hin.mono fun e w' hh => ⟨⟨by rw [hh.1, decide_eq_true h2], rfl, by omega, by omega⟩, hh.2⟩
  ·have : openB xs = none := by unfold openB; rw [h.len, if_neg h1, if_neg h2]
   rw [this]
   refine hin.mono fun e w' hh => ⟨⟨.slice ao (n - 4) cap, by rw [hh.1, decide_eq_false h2]⟩, hh.2⟩
end

end Go.Proofs.YtmklodligplbaabGreat
