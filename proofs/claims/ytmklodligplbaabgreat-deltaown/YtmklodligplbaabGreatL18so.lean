import Derived.Test.YtmklodligplbaabGreatL18ro
import Derived.Deep.DeepAppendWide
open Go.RowKit
set_option linter.unusedVariables false
set_option linter.unusedSimpArgs false
set_option maxRecDepth 100000
set_option maxHeartbeats 0
namespace Go.Proofs.YtmklodligplbaabGreat
section
open Dlt
def stF : Stp -> Nat
 | .copy f _ => f
 | .lit _ => 0
def stN : Stp -> Nat
 | .copy _ c => c
 | .lit _ => 0
def stB : Stp -> List UInt8
 | .copy _ _ => []
 | .lit bs => bs
theorem stp_len (z : Nat) (i : Stp) : i.len z = stN i * z + (stB i).length := by
 cases i <;> simp [Stp.len, stN, stB]
def StepE (w w' : World) (e : Ending) (b : Nat) (ao : Option Addr) (cap : Nat) (ys : List UInt8) : Option (Stp × Rs) -> Prop
 | some p => ∃ to tn tc, e = .returned (.tuple #[.agg (stp3 (stF p.1) (stN p.1) (.slice to tn tc)).toArray, .bool true]) ∧ InB8 w' to tn tc (stB p.1) ∧ (∀ a, to = some a -> w.heap.size <= a.block ∧ a.block < w'.heap.size) ∧ RfS w' b ao cap ys p.2
 | none => ∃ f c to tn tc, e = .returned (.tuple #[.agg (stp3 f c (.slice to tn tc)).toArray, .bool false])
theorem inB8_nil (w : World) : InB8 w none 0 0 [] := ⟨rfl, Nat.le_refl _, by omega, Sl.nil _ _, fun _ => ⟨rfl, rfl⟩⟩
theorem rstep_ok {w : World} {b : Nat} {ao : Option Addr} {cap : Nat} {ys : List UInt8} {s : Rs} (h : RfS w b ao cap ys s) (dl : List Value) (Z L : Nat) (hdZ : dl[1]? = some (.int .i64 Z)) (hdL : dl[2]? = some (.int .i64 L)) (hZ1 : 16 <= Z) (hZ2 : Z <= 4096) (hL2 : L <= 131072) :
  Calls Tryz.prog 38 #[.pointer (some ⟨b, 0, none⟩), .agg dl.toArray] w fun e w' => StepE w w' e b ao cap ys (rdI ys (L / Z) s) ∧ Kept [b] w w' := by
 by_cases h1 : (stFixed ys s 1).1 = 1
 ·refine (rstep_copy h dl Z L hdZ hdL hZ1 hZ2 hL2 h1 _ _ _ _ _ rfl rfl rfl rfl rfl _ rfl).mono fun e w' hh => ⟨?_, hh.2.1⟩
  obtain ⟨h2, h3, h4⟩ := hh
  unfold rdI
  rw [if_pos h1]
  have ha := stNumber_le ys (stFixed ys s 1).2
  have hc := stNumber_le ys (stNumber ys (stFixed ys s 1).2).2
  have hce := num_e (xs := ys) (s := (stNumber ys (stFixed ys s 1).2).2)
  generalize (stNumber ys (stNumber ys (stFixed ys s 1).2).2).2 = s3 at *
  generalize (stNumber ys (stNumber ys (stFixed ys s 1).2).2).1 = c at *
  generalize (stNumber ys (stFixed ys s 1).2).1 = a at *
  generalize L / Z = n at *
  by_cases hall : s3.e = 0 ∧ 1 <= c ∧ a + c <= (n : Int)
  ·rw [decide_eq_true hall] at h2
   have w1 : Dlt.within a 0 n = true := Dlt.within_iff.2 (by omega)
   have w2 : Dlt.within c 1 ((n : Int) - a) = true := Dlt.within_iff.2 (by omega)
   rw [w1, w2, if_neg (by simp), if_neg (by simp)]
   refine ⟨none, 0, 0, ?_, inB8_nil w', by simp, h4⟩
   rw [h2]
   show _ = Ending.returned (.tuple #[.agg (stp3 ((a.toNat : Nat) : Int) ((c.toNat : Nat) : Int) (.slice none 0 0)).toArray, .bool true])
   rw [Int.toNat_of_nonneg ha.1, Int.toNat_of_nonneg hc.1]
  ·rw [decide_eq_false hall] at h2
   have : (if Dlt.within a 0 n = false then none else if Dlt.within c 1 ((n : Int) - a) = false then none else some (Stp.copy a.toNat c.toNat, s3)) = (none : Option (Stp × Rs)) := by
    by_cases w1 : Dlt.within a 0 n = true
    ·by_cases w2 : Dlt.within c 1 ((n : Int) - a) = true
     ·exfalso
      rw [Dlt.within_iff] at w1 w2
      exact hall ⟨hce (by omega), w2.1, by omega⟩
     ·rw [w1, Bool.eq_false_iff.2 w2]; rfl
    ·rw [Bool.eq_false_iff.2 w1]; rfl
   rw [this]
   exact ⟨_, _, _, _, _, h2⟩
 ·by_cases h2 : (stFixed ys s 1).1 = 2
  ·refine (rstep_lit h dl Z L hdZ hdL hZ1 hZ2 hL2 h2 _ _ _ rfl rfl rfl _ rfl).mono fun e w' hh => ⟨?_, hh.2.1⟩
   obtain ⟨⟨to, tn, tc, h3, h4, h5⟩, _, h6⟩ := hh
   unfold rdI
   rw [if_neg h1, if_pos h2]
   have hte := text_e (xs := ys) (s := (stFixed ys s 1).2) (m := 131072)
   generalize (stText ys (stFixed ys s 1).2 131072).2 = s3 at *
   generalize (stText ys (stFixed ys s 1).2 131072).1 = bs at *
   by_cases hb : bs = []
   ·rw [if_pos hb]
    subst hb
    have hd : decide (s3.e = 0 ∧ 1 <= ([] : List UInt8).length) = false := by simp
    rw [hd] at h3
    exact ⟨_, _, _, _, _, h3⟩
   ·rw [if_neg hb]
    have hd : decide (s3.e = 0 ∧ 1 <= bs.length) = true := decide_eq_true ⟨hte hb, List.length_pos_iff.2 hb⟩
    rw [hd] at h3
    exact ⟨to, tn, tc, h3, h4, h5, h6⟩
  ·refine (rstep_none h dl Z L hdZ hdL hZ1 hZ2 hL2 _ rfl h1 h2).mono fun e w' hh => ⟨?_, hh.2⟩
   unfold rdI
   rw [if_neg h1, if_neg h2]
   exact ⟨_, _, _, _, _, hh.1⟩
structure Stc where
 s : Stp
 ao : Option Addr
 n : Nat
 cap : Nat
def Stc.cells (x : Stc) : List Value := stp3 (stF x.s) (stN x.s) (.slice x.ao x.n x.cap)
def srows (T : List Stc) : List Value := T.flatMap Stc.cells
theorem srows_snoc (T : List Stc) (x : Stc) : srows (T ++ [x]) = srows T ++ x.cells := by simp [srows]
theorem srows_at : ∀ {T : List Stc} (i j : Nat) (x : Stc) (v : Value), T[i]? = some x -> x.cells[j]? = some v -> (srows T)[i * 3 + j]? = some v
 | [], i, j, x, v, h, _ => by simp at h
 | y :: T, 0, j, x, v, h, hv => by
  simp only [List.getElem?_cons_zero, Option.some.injEq] at h
  subst h
  rw [show srows (y :: T) = y.cells ++ srows T from by simp [srows], Nat.zero_mul, Nat.zero_add, List.getElem?_append_left (List.getElem?_eq_some_iff.1 hv).1]
  exact hv
 | y :: T, i + 1, j, x, v, h, hv => by
  rw [List.getElem?_cons_succ] at h
  have hl : y.cells.length = 3 := rfl
  rw [show srows (y :: T) = y.cells ++ srows T from by simp [srows], List.getElem?_append_right (by rw [hl]; omega), hl, show (i + 1) * 3 + j - 3 = i * 3 + j by omega]
  exact srows_at i j x v h hv
theorem srows_one (T : List Stc) : ∀ u ∈ srows T, u.oneCell' = true := fun u hu => by
 obtain ⟨x, _, hx⟩ := List.mem_flatMap.1 hu
 simp only [Stc.cells, stp3, List.mem_cons, List.not_mem_nil, or_false] at hx
 rcases hx with rfl | rfl | rfl <;> rfl
structure StepsAt (base : Nat) (w : World) (v : Value) (T : List Stc) : Prop where
 own : w.ownsRow base 39 3 v T.length (srows T)
 lit : ∀ x, x ∈ T -> InB8 w x.ao x.n x.cap (stB x.s) ∧ ∀ a, x.ao = some a -> base <= a.block ∧ a.block < w.heap.size ∧ v.ownBlock ≠ some a.block
theorem StepsAt.nil (base : Nat) (w : World) : StepsAt base w (.slice none 0 0) [] := ⟨World.ownsRow_nil _ _ _ _, by simp⟩
theorem StepsAt.kept {base : Nat} {l : List Nat} {w w' : World} {v : Value} {T : List Stc} (h : StepsAt base w v T) (hk : Kept l w w') (hl : ∀ i, i ∈ l -> i < base) : StepsAt base w' v T := by
 refine ⟨own_kept9 h.own hk (fun i hi g hg => ?_), fun x hx => ?_⟩
 ·have := (own_blk h.own hg).1
  have := hl i hi
  omega
 ·obtain ⟨h1, h2⟩ := h.lit x hx
  refine ⟨⟨h1.len, h1.le, h1.max, h1.sl.kept hk (fun hne a ha hm => ?_), h1.nil⟩, fun a ha => ⟨(h2 a ha).1, Nat.lt_of_lt_of_le (h2 a ha).2.1 hk.size, (h2 a ha).2.2⟩⟩
  have := (h2 a ha).1
  have := hl _ hm
  omega
theorem StepsAt.shape {base : Nat} {w : World} {v : Value} {T : List Stc} (h : StepsAt base w v T) : ∃ lo lc, v = .slice lo T.length lc ∧ T.length <= lc := own_shape h.own
theorem StepsAt.cell {base : Nat} {w : World} {lo : Option Addr} {n lc : Nat} {T : List Stc} (h : StepsAt base w (.slice lo n lc) T) {i : Nat} {x : Stc} (hx : T[i]? = some x) : ∃ g, lo = some ⟨g, 0, none⟩ ∧ base <= g ∧ g < w.heap.size ∧ w.rangeAt g (i * 3) x.cells := by
 have hi : i < T.length := (List.getElem?_eq_some_iff.1 hx).1
 rcases h.own.2 with ⟨e, h0⟩ | ⟨g, cap, cur, e, hb, hg, hn, hc, hs, ht⟩
 ·omega
 ·injection e with e1 e2 e3
  subst e1
  refine ⟨g, rfl, hb, heap_lt hg, fun j u hu => ?_⟩
  rw [cell_of_row _ _ _ _ _ _ hg]
  have h1 := srows_at i j x u hx hu
  rw [<-ht, List.getElem?_take] at h1
  split at h1
  ·simpa using h1
  ·cases h1
theorem Tryz.infoStp3 : (Tryz.prog.info? 39).map (fun i => (i.zero, i.size, i.bytes)) = some (some (.agg (stp3 0 0 (.slice none 0 0)).toArray), 3, 40) := by kernel_rfl
theorem StepsAt.add {base : Nat} {w : World} {v : Value} {T : List Stc} (h : StepsAt base w v T) (hT : T.length <= 1000000) (hb : base <= w.heap.size) (x : Stc) (hx : InB8 w x.ao x.n x.cap (stB x.s)) (hxb : ∀ a, x.ao = some a -> base <= a.block ∧ a.block < w.heap.size ∧ v.ownBlock ≠ some a.block) (N : Nat) (hN : w.heap[N]? = some (.cells x.cells.toArray 39 (0, 0))) :
  ∃ v' w', (Builtin.append_ #[32, 32] 32 #[v, .slice (some ⟨N, 0, none⟩) 1 1]).run Tryz.prog w = .ok v' w' ∧ StepsAt base w' v' (T ++ [x]) ∧ Kept v.ownBlock.toList w w' := by
 obtain ⟨i0, hi, hz0, hz1, hz2⟩ := info_parts Tryz.infoStp3
 obtain ⟨v', w', hrun, h1', h2, h3, h4⟩ := run_append_own_at (P := Tryz.prog) w base 32 32 39 i0 _ 3 40 Tryz.underlying32 hi hz0 hz1 hz2 rfl (by omega) v T.length (srows T) h.own ⟨N, 0, none⟩ 1 1 x.cells (by rfl)
  (fun j u hj => by rw [Addr.add_mid, cell_of_row _ _ _ _ _ _ hN, List.getElem?_toArray, Nat.zero_add]; exact hj) (fun u hu => srows_one [x] u (by simpa [srows] using hu)) (by unfold maxLen; omega) (by omega) hb
 have hk : Kept v.ownBlock.toList w w' := (Kept.refl _ w).grown h2 (fun k hk _ => by simp [hk])
 refine ⟨v', w', hrun, ⟨?_, fun y hy => ?_⟩, hk⟩
 ·rw [List.length_append, srows_snoc]
  exact h1'
 ·have key : ∀ y : Stc, InB8 w y.ao y.n y.cap (stB y.s) -> (∀ a, y.ao = some a -> base <= a.block ∧ a.block < w.heap.size ∧ v.ownBlock ≠ some a.block) -> InB8 w' y.ao y.n y.cap (stB y.s) ∧ ∀ a, y.ao = some a -> base <= a.block ∧ a.block < w'.heap.size ∧ v'.ownBlock ≠ some a.block := by
   intro y hy1 hy2
   refine ⟨⟨hy1.len, hy1.le, hy1.max, hy1.sl.kept hk (fun hne a ha hm => ?_), hy1.nil⟩, fun a ha => ⟨(hy2 a ha).1, Nat.lt_of_lt_of_le (hy2 a ha).2.1 hk.size, ?_⟩⟩
   ·simp only [Option.mem_toList] at hm
    exact (hy2 a ha).2.2 hm
   ·rcases h4 with h4 | h4
    ·rw [h4]; exact (hy2 a ha).2.2
    ·rw [h4]; intro he; injection he with he; have := (hy2 a ha).2.1; omega
  rw [List.mem_append, List.mem_singleton] at hy
  rcases hy with hy | rfl
  ·exact key y (h.lit y hy).1 (h.lit y hy).2
  ·exact key y hx hxb
end

section
open Dlt
structure Tr where
 f : Nat
 c : Nat
 ao : Option Addr
 n : Nat
 cap : Nat
 bs : List UInt8
def Tr.cells (x : Tr) : List Value := stp3 (x.f : Nat) (x.c : Nat) (.slice x.ao x.n x.cap)
def Tr.stp (x : Tr) : Stp := if 0 < x.c then .copy x.f x.c else .lit x.bs
structure Tr.Ok (w : World) (x : Tr) : Prop where
 inb : InB8 w x.ao x.n x.cap x.bs
 f : x.f <= 2147483647
 c : x.c <= 2147483647
 n : x.n <= 100000000
theorem Tr.Ok.kept {w w' : World} {x : Tr} (h : x.Ok w) (hk : Kept [] w w') : x.Ok w' := ⟨h.inb.kept hk, h.f, h.c, h.n⟩
def TrsAt (w : World) (lo : Option Addr) (T : List Tr) : Prop := ∀ i x, T[i]? = some x -> (∃ b off, lo = some ⟨b, off, none⟩ ∧ w.rangeAt b (off + i * 3) x.cells) ∧ x.Ok w
theorem TrsAt.kept {w w' : World} {lo : Option Addr} {T : List Tr} (h : TrsAt w lo T) (hk : Kept [] w w') : TrsAt w' lo T := fun i x hx => by
 obtain ⟨⟨b, off, e, hr⟩, ho⟩ := h i x hx
 exact ⟨⟨b, off, e, fun j u hu => hk.cellOf (hr j u hu) (by simp)⟩, ho.kept hk⟩
def encT (T : List Tr) : List UInt8 := T.flatMap fun x => encI x.stp
theorem encT_take {T : List Tr} {k : Nat} {x : Tr} (h : T[k]? = some x) : encT (T.take (k + 1)) = encT (T.take k) ++ encI x.stp := by
 obtain ⟨hl, hk⟩ := List.getElem?_eq_some_iff.1 h
 unfold encT
 rw [List.take_succ_eq_append_getElem hl, List.flatMap_append, hk]
 simp
theorem encT_le (T : List Tr) (k : Nat) : (encT (T.take k)).length <= (encT T).length := by
 conv => rhs; rw [<-List.take_append_drop k T]
 unfold encT
 rw [List.flatMap_append, List.length_append]
 omega
def writtenB (W Z N : Nat) (bid : List UInt8) (M : Nat) (tid : List UInt8) (T : List Tr) : List UInt8 :=
 sealed ([68] ++ Pure.enc W ++ Pure.enc Z ++ Pure.enc N ++ bid.take W ++ Pure.enc M ++ tid.take W ++ Pure.enc T.length ++ encT T)
theorem rtext_ok (ao : Option Addr) (n cap : Nat) (bs : List UInt8) (w : World) (h : InB8 w ao n cap bs) (hn : n <= 100000000) :
  Calls Tryz.prog 57 #[.slice ao n cap] w fun e w' => ∃ m so sc, (Pure.enc n ++ bs).length = m ∧ m <= n + 5 ∧ e = .returned (.slice so m sc) ∧ Sl w' so (Pure.enc n ++ bs) ∧ (so = none -> Pure.enc n ++ bs = [] ∧ sc = 0) ∧ Kept [] w w' := by
 have hnu := refnumber_ok n (by omega) w
 have HB := hide h
 have hl5 := Pure.enc_len5 (v := n) (by omega)
 obtain ⟨m1, hm1⟩ := nm ((Pure.enc n).length)
 have HM1 := hide hm1
 rw [hm1] at hnu hl5
 clear h hm1
 go_enter Tryz.func57, Tryz.ntmps57
 go_upto_region 2 with (go_at_call 55; refine hnu.mono ?_; rintro r w2 ⟨vb, rfl, _, ho, hk⟩; obtain ⟨so, sc, rfl, _⟩ := own_shape ho; have HO := hide (ai ho hk); clear hnu ho hk)
 have hob : OwnB w2 w.heap.size (.slice so m1 sc) (Pure.enc n) := by unfold OwnB; rw [HM1.out]; exact HO.out.1
 obtain ⟨p1, c1, x1, hrun, hoj, hkj⟩ := app18 hob HO.out.2.size ao n cap bs HB.out.len (HB.out.sl.kept HO.out.2 (by simp)) HB.out.nil (by omega)
 have HX := hide (ai hoj (own_far hob HO.out.2 (Nat.le_refl _) hkj))
 clear hob hoj hkj HO
 go_wp2_with (refine wpList_app_run rfl (.tmp 7) (.tmp 8) 27 27 rfl (.slice so m1 sc) (.slice ao n cap) rfl rfl (.slice p1 (m1 + n) c1) x1 hrun ?_; clear hrun)
 go_ret
 have hi := HX.out.1.in8
 exact ⟨m1 + n, p1, c1, hi.len, by omega, rfl, hi.sl, hi.nil, HX.out.2⟩
end

section
open Dlt
theorem enc_lenB {v : Nat} (h : v <= 72057594037927935) : (Pure.enc v).length <= 8 := Pure.enc_len v 7 (by omega)
theorem refnumberB_ok (v : Nat) (hv : v <= 72057594037927935) (w : World) :
  Calls Tryz.prog 55 #[.int .i64 v] w fun e w' => ∃ vb, e = .returned vb ∧ vb ≠ .slice none 0 0 ∧ w'.ownsRow w.heap.size 5 1 vb (Pure.enc v).length (bys (Pure.enc v)) ∧ Kept [] w w' := by
 obtain ⟨i0, hi, hz0, hz1, hz2⟩ := info_parts Tryz.infoByte
 have HI : Hid (EncRel w w v (.slice none 0 0) [] v) := ⟨World.ownsRow_nil _ _ _ _, rfl, Kept.refl _ _⟩
 go_enter Tryz.func55, Tryz.ntmps55
 go_wp2
 go_loopw [0, 3] (fun a b wr => ∃ (x : Nat) (ys : List UInt8), x <= 72057594037927935 ∧ ys.length <= 8 ∧ a = .int .i64 x ∧ Hid (EncRel w wr v b ys x)) (fun a b wr => (intOf a).toNat)
 case atStart => exact ⟨v, [], hv, by simp, rfl, HI⟩
 case round =>
  clear HI
  obtain ⟨x, ys, hx, hys, rfl, HR⟩ := hrel
  have HE5 : Hid (ys.length + (Pure.enc x).length <= 8) := by
   have h1 := enc_lenB hv
   rw [HR.out.eq, List.length_append] at h1
   exact h1
  by_cases h128 : 128 <= x
  ·go_wp2_with (at_builtin; refine wpList_append_own _ rfl _ _ 27 rfl w.heap.size 5 i0 (.int .u8 0) 1 1 Tryz.underlying27 hi hz0 hz1 hz2 rfl (by decide) _ _ _ rfl (HR.out.own.alloc _) ⟨wr.heap.size, 0, none⟩ 1 1 [.int .u8 (128 + (x : Int) % 128)] rfl rfl (one_cells8 _ _ _ _) (by simp [Value.oneCell']) ?c3 ?c4 ?c5 ?_)
   case c3 => unfold maxLen; omega
   case c4 => omega
   case c5 => have := HR.out.kept.size; simp; omega
   intro v' w1 hown hgrow hnn
   have HR2 : Hid (EncRel w w1 v v' (ys ++ [UInt8.ofNat (x % 128 + 128)]) (x / 128)) := by
    refine ⟨?_, ?_, ?_⟩
    ·have h1 := hown
     rw [bys_one8 (UInt8.ofNat (x % 128 + 128)) _ (by rw [Pure.toNat_ofNat_small (by omega)]; omega), <-bys_append] at h1
     simpa using h1
    ·rw [HR.out.eq, Pure.enc_more (by omega)]
     simp
    ·exact (HR.out.kept.alloc _).grown hgrow (fun k hk hlt => by have := (HR.out.own.lt k hk).1; omega)
   have hl2 : (ys ++ [UInt8.ofNat (x % 128 + 128)]).length <= 8 := by
    have h1 := HE5.out
    rw [Pure.enc_more (by omega)] at h1
    simp at h1 ⊢
    omega
   clear hown hgrow hnn HR HE5
   go_wp2
   go_roundw
   case rel => exact ⟨x / 128, _, by omega, hl2, by go_num, HR2⟩
   case measure => simp [intOf]; omega
  ·go_wp2_with (at_builtin; refine wpList_append_own _ rfl _ _ 27 rfl w.heap.size 5 i0 (.int .u8 0) 1 1 Tryz.underlying27 hi hz0 hz1 hz2 rfl (by decide) _ _ _ rfl (HR.out.own.alloc _) ⟨wr.heap.size, 0, none⟩ 1 1 [.int .u8 (x : Int)] rfl rfl (one_cells8 _ _ _ _) (by simp [Value.oneCell']) ?c3 ?c4 ?c5 ?_)
   case c3 => unfold maxLen; omega
   case c4 => omega
   case c5 => have := HR.out.kept.size; simp; omega
   intro v' w1 hown hgrow hnn
   have HR2 : Hid (w1.ownsRow w.heap.size 5 1 v' (Pure.enc v).length (bys (Pure.enc v)) ∧ Kept [] w w1 ∧ v' ≠ .slice none 0 0) := by
    refine ⟨?_, ?_, fun h => ?_⟩
    ·have h1 := hown
     rw [bys_one8 (UInt8.ofNat x) _ (by rw [Pure.toNat_ofNat_small (by omega)]), <-bys_append] at h1
     rw [HR.out.eq, Pure.enc_small (by omega)]
     simpa using h1
    ·exact (HR.out.kept.alloc _).grown hgrow (fun k hk hlt => by have := (HR.out.own.lt k hk).1; omega)
    ·exact hnn h
   clear hown hgrow hnn HR HE5
   go_wp2
   go_ret
   exact ⟨v', rfl, HR2.out.2.2, HR2.out.1, HR2.out.2.1⟩
theorem refnum9 (v : Nat) (hv : v <= 72057594037927935) (w : World) : Calls Tryz.prog 55 #[.int .i64 v] w fun e w' => ∃ m so sc, (Pure.enc v).length = m ∧ m <= 8 ∧ e = .returned (.slice so m sc) ∧ Sl w' so (Pure.enc v) ∧ (so = none -> Pure.enc v = [] ∧ sc = 0) ∧ Kept [] w w' :=
 (refnumberB_ok v hv w).mono fun e w' h => by
  obtain ⟨vb, rfl, _, ho, hk⟩ := h
  obtain ⟨so, sc, rfl, _⟩ := own_shape ho
  have hi := own_in8 ho
  exact ⟨_, so, sc, rfl, enc_lenB hv, rfl, hi.sl, hi.nil, hk⟩
theorem rwrittenB_ok (W Z N M : Nat) (bid tid : List UInt8) (lo : Option Addr) (n lc : Nat) (T : List Tr) (w : World) (hW : W <= 32) (hZ : Z <= 2147483647) (hN : N <= 72057594037927935) (hM : M <= 72057594037927935) (hbl : bid.length = 32) (htl : tid.length = 32) (hTl : T.length = n) (hn : n <= 100000000) (hT : TrsAt w lo T) (hE : (encT T).length <= 500000000) :
  Calls Tryz.prog 19 #[.int .i64 W, .int .i64 Z, .int .i64 N, .agg (bys bid).toArray, .int .i64 M, .agg (bys tid).toArray, .slice lo n lc] w fun e w' => (∃ ao m cap, e = .returned (.slice ao m cap) ∧ OwnB w' w.heap.size (.slice ao m cap) (writtenB W Z N bid M tid T)) ∧ Kept [] w w' := by
 have k1 := ka w (.cells (bys bid).toArray 23)
 have k2 : Kept [] (w.alloc (.cells (bys bid).toArray 23)) ((w.alloc (.cells (bys bid).toArray 23)).alloc (.cells (bys tid).toArray 23)) := (Kept.refl [] _).alloc _
 have hb1 : ((w.alloc (.cells (bys bid).toArray 23)).alloc (.cells (bys tid).toArray 23)).heap[w.heap.size]? = some (.cells (bys bid).toArray 23 (0, 0)) := heap_alloc2_old _ _ _
 have ht1 : ((w.alloc (.cells (bys bid).toArray 23)).alloc (.cells (bys tid).toArray 23)).heap[w.heap.size + 1]? = some (.cells (bys tid).toArray 23 (0, 0)) := heap_alloc2_new _ _ _
 obtain ⟨A, hAe⟩ := nm (w.heap.size)
 obtain ⟨A2, hAe2⟩ := nm (A + 1)
 rw [hAe] at hb1 ht1
 rw [hAe2] at ht1
 have HK2 := hide (k1.tr k2)
 have HT := hide hT
 have HE := hide hE
 have HTL := hide hTl
 clear hT hE hTl k1 k2
 go_enter Tryz.func19, Tryz.ntmps19
 go_upto_region 1 with (fail)
 try rw [hAe]
 try rw [hAe2]
 have HAW : Hid (w.heap.size <= A) := Nat.le_of_eq hAe
 clear hAe hAe2
 generalize (w.alloc (.cells (bys bid).toArray 23)).alloc (.cells (bys tid).toArray 23) = w2 at *
 have hrb : w2.rangeAt A 0 (bys bid) := fun j u hu => by rw [Nat.zero_add, cell_of_row _ _ _ _ _ _ hb1]; simpa using hu
 have hrt : w2.rangeAt A2 0 (bys tid) := fun j u hu => by rw [Nat.zero_add, cell_of_row _ _ _ _ _ _ ht1]; simpa using hu
 have HRB := hide hrb
 have HRT := hide hrt
 clear hb1 ht1 hrb hrt
 obtain ⟨B, hB⟩ := nm (w2.heap.size)
 have HAB : Hid (w.heap.size <= B) := by show _ <= _; rw [<-hB]; exact HK2.out.size
 have ho3 : OwnB (w2.alloc (.cells #[.int .u8 68] 5)) B (.slice (some ⟨B, 0, none⟩) 1 1) [68] := by rw [<-hB]; exact own_one9 w2 68
 have hk3 := ka w2 (.cells #[.int .u8 68] 5)
 go_upto_region 2 with (fail)
 try rw [hB]
 have H3 : Hid (OwnB (w2.alloc (.cells #[.int .u8 68] 5)) B (.slice (some ⟨B, 0, none⟩) 1 1) [68] ∧ Kept [] w2 (w2.alloc (.cells #[.int .u8 68] 5)) ∧ B <= (w2.alloc (.cells #[.int .u8 68] 5)).heap.size) := ⟨ho3, hk3, by rw [<-hB]; exact hk3.size⟩
 have HBW : Hid (w2.heap.size <= B) := Nat.le_of_eq hB
 clear ho3 hk3 hB
 generalize w2.alloc (.cells #[.int .u8 68] 5) = x0 at *
 obtain ⟨p0, hp0⟩ : ∃ p0 : Option Addr, some (⟨B, 0, none⟩ : Addr) = p0 := ⟨_, rfl⟩
 rw [hp0] at H3 ⊢
 clear hp0
 have hnu := refnum8 W (by omega) x0
 go_upto_region 3 with (first
  | (go_at_call 55; refine hnu.mono ?_; rintro r z1 ⟨m1, s1, sc1, hm1, hb5, rfl, hsl, hs0, hkz⟩; obtain ⟨p1, c1, x1, hrun, hoj, hkj⟩ := app18 (H3.out.1.kept hkz (by simp)) (Nat.le_trans H3.out.2.2 hkz.size) s1 m1 sc1 (Pure.enc W) hm1 hsl hs0 (by omega); have HX : Hid (OwnB x1 B (.slice p1 (1 + m1) c1) ([68] ++ Pure.enc W) ∧ Kept [] w2 x1 ∧ B <= x1.heap.size) := (ai hoj (ai (own_far (H3.out.1.kept hkz (by simp)) (H3.out.2.1.tr hkz) HBW.out hkj) (Nat.le_trans H3.out.2.2 (Nat.le_trans hkz.size hkj.size)))); clear hnu hm1 hsl hs0 hkz hoj hkj)
  | (refine wpList_app_run rfl (.tmp 18) (.tmp 20) 27 27 rfl (.slice p0 1 1) (.slice s1 m1 sc1) rfl rfl (.slice p1 (1 + m1) c1) x1 hrun ?_; clear hrun; try simp only [z4, z5, z6, z7, z8]))
 clear H3
 obtain ⟨q1, hq1⟩ : ∃ q, 1 + m1 = q := ⟨_, rfl⟩
 have hqb1 : q1 <= 6 := by omega
 rw [hq1] at HX ⊢
 have H3 := HX
 clear HX hq1 hb5
 have hnu := refnum8 Z hZ x1
 go_upto_region 4 with (first
  | (go_at_call 55; refine hnu.mono ?_; rintro r z2 ⟨m2, s2, sc2, hm2, hb5, rfl, hsl, hs0, hkz⟩; obtain ⟨p2, c2, x2, hrun, hoj, hkj⟩ := app18 (H3.out.1.kept hkz (by simp)) (Nat.le_trans H3.out.2.2 hkz.size) s2 m2 sc2 (Pure.enc Z) hm2 hsl hs0 (by omega); have HX : Hid (OwnB x2 B (.slice p2 (q1 + m2) c2) ([68] ++ Pure.enc W ++ Pure.enc Z) ∧ Kept [] w2 x2 ∧ B <= x2.heap.size) := (ai hoj (ai (own_far (H3.out.1.kept hkz (by simp)) (H3.out.2.1.tr hkz) HBW.out hkj) (Nat.le_trans H3.out.2.2 (Nat.le_trans hkz.size hkj.size)))); clear hnu hm2 hsl hs0 hkz hoj hkj)
  | (refine wpList_app_run rfl (.tmp 22) (.tmp 24) 27 27 rfl (.slice p1 q1 c1) (.slice s2 m2 sc2) rfl rfl (.slice p2 (q1 + m2) c2) x2 hrun ?_; clear hrun; try simp only [z4, z5, z6, z7, z8]))
 clear H3
 obtain ⟨q2, hq2⟩ : ∃ q, q1 + m2 = q := ⟨_, rfl⟩
 have hqb2 : q2 <= 11 := by omega
 rw [hq2] at HX ⊢
 have H3 := HX
 clear HX hq2 hb5 hqb1
 have hnu := refnum9 N hN x2
 go_upto_region 5 with (first
  | (go_at_call 55; refine hnu.mono ?_; rintro r z3 ⟨m3, s3, sc3, hm3, hb5, rfl, hsl, hs0, hkz⟩; obtain ⟨p3, c3, x3, hrun, hoj, hkj⟩ := app18 (H3.out.1.kept hkz (by simp)) (Nat.le_trans H3.out.2.2 hkz.size) s3 m3 sc3 (Pure.enc N) hm3 hsl hs0 (by omega); have HX : Hid (OwnB x3 B (.slice p3 (q2 + m3) c3) ([68] ++ Pure.enc W ++ Pure.enc Z ++ Pure.enc N) ∧ Kept [] w2 x3 ∧ B <= x3.heap.size) := (ai hoj (ai (own_far (H3.out.1.kept hkz (by simp)) (H3.out.2.1.tr hkz) HBW.out hkj) (Nat.le_trans H3.out.2.2 (Nat.le_trans hkz.size hkj.size)))); clear hnu hm3 hsl hs0 hkz hoj hkj)
  | (refine wpList_app_run rfl (.tmp 26) (.tmp 28) 27 27 rfl (.slice p2 q2 c2) (.slice s3 m3 sc3) rfl rfl (.slice p3 (q2 + m3) c3) x3 hrun ?_; clear hrun; try simp only [z4, z5, z6, z7, z8]))
 clear H3
 obtain ⟨q3, hq3⟩ : ∃ q, q2 + m3 = q := ⟨_, rfl⟩
 have hqb3 : q3 <= 19 := by omega
 rw [hq3] at HX ⊢
 have H3 := HX
 clear HX hq3 hb5 hqb2
 have hrb : x3.rangeAt A 0 (bys bid) := fun j u hu => H3.out.2.1.cellOf (HRB.out j u hu) (by simp)
 have hib := idlen hbl
 have hpt := rpart_ok W bid x3 hW hbl
 go_upto_region 6 with (first
  | (refine wpList_load_mid rfl 23 (.tmp 10) rfl A 0 rfl (bys bid) _ hrb Tryz.underlying23 rfl hib ?_; try simp only [z4, z5, z6, z7, z8])
  | (go_at_call 56; refine hpt.mono ?_; rintro r z4 ⟨⟨s4, sc4, rfl, hob⟩, hkz⟩; have hi4 := hob.in8; obtain ⟨p4, c4, x4, hrun, hoj, hkj⟩ := app18 (H3.out.1.kept hkz (by simp)) (Nat.le_trans H3.out.2.2 hkz.size) s4 W sc4 (bid.take W) hi4.len hi4.sl hi4.nil (by omega); have HX : Hid (OwnB x4 B (.slice p4 (q3 + W) c4) ([68] ++ Pure.enc W ++ Pure.enc Z ++ Pure.enc N ++ bid.take W) ∧ Kept [] w2 x4 ∧ B <= x4.heap.size) := (ai hoj (ai (own_far (H3.out.1.kept hkz (by simp)) (H3.out.2.1.tr hkz) HBW.out hkj) (Nat.le_trans H3.out.2.2 (Nat.le_trans hkz.size hkj.size)))); clear hpt hob hi4 hkz hoj hkj)
  | (refine wpList_app_run rfl (.tmp 30) (.tmp 33) 27 27 rfl (.slice p3 q3 c3) (.slice s4 W sc4) rfl rfl (.slice p4 (q3 + W) c4) x4 hrun ?_; clear hrun; try simp only [z4, z5, z6, z7, z8]))
 clear hrb hib
 clear H3
 obtain ⟨q4, hq4⟩ : ∃ q, q3 + W = q := ⟨_, rfl⟩
 have hqb4 : q4 <= 51 := by omega
 rw [hq4] at HX ⊢
 have H3 := HX
 clear HX hq4 hqb3
 have hnu := refnum9 M hM x4
 go_upto_region 7 with (first
  | (go_at_call 55; refine hnu.mono ?_; rintro r z5 ⟨m5, s5, sc5, hm5, hb5, rfl, hsl, hs0, hkz⟩; obtain ⟨p5, c5, x5, hrun, hoj, hkj⟩ := app18 (H3.out.1.kept hkz (by simp)) (Nat.le_trans H3.out.2.2 hkz.size) s5 m5 sc5 (Pure.enc M) hm5 hsl hs0 (by omega); have HX : Hid (OwnB x5 B (.slice p5 (q4 + m5) c5) ([68] ++ Pure.enc W ++ Pure.enc Z ++ Pure.enc N ++ bid.take W ++ Pure.enc M) ∧ Kept [] w2 x5 ∧ B <= x5.heap.size) := (ai hoj (ai (own_far (H3.out.1.kept hkz (by simp)) (H3.out.2.1.tr hkz) HBW.out hkj) (Nat.le_trans H3.out.2.2 (Nat.le_trans hkz.size hkj.size)))); clear hnu hm5 hsl hs0 hkz hoj hkj)
  | (refine wpList_app_run rfl (.tmp 35) (.tmp 37) 27 27 rfl (.slice p4 q4 c4) (.slice s5 m5 sc5) rfl rfl (.slice p5 (q4 + m5) c5) x5 hrun ?_; clear hrun; try simp only [z4, z5, z6, z7, z8]))
 clear H3
 obtain ⟨q5, hq5⟩ : ∃ q, q4 + m5 = q := ⟨_, rfl⟩
 have hqb5 : q5 <= 59 := by omega
 rw [hq5] at HX ⊢
 have H3 := HX
 clear HX hq5 hb5 hqb4
 have hrb : x5.rangeAt A2 0 (bys tid) := fun j u hu => H3.out.2.1.cellOf (HRT.out j u hu) (by simp)
 have hib := idlen htl
 have hpt := rpart_ok W tid x5 hW htl
 go_upto_region 8 with (first
  | (refine wpList_load_mid rfl 23 (.tmp 12) rfl A2 0 rfl (bys tid) _ hrb Tryz.underlying23 rfl hib ?_; try simp only [z4, z5, z6, z7, z8])
  | (go_at_call 56; refine hpt.mono ?_; rintro r z6 ⟨⟨s6, sc6, rfl, hob⟩, hkz⟩; have hi4 := hob.in8; obtain ⟨p6, c6, x6, hrun, hoj, hkj⟩ := app18 (H3.out.1.kept hkz (by simp)) (Nat.le_trans H3.out.2.2 hkz.size) s6 W sc6 (tid.take W) hi4.len hi4.sl hi4.nil (by omega); have HX : Hid (OwnB x6 B (.slice p6 (q5 + W) c6) ([68] ++ Pure.enc W ++ Pure.enc Z ++ Pure.enc N ++ bid.take W ++ Pure.enc M ++ tid.take W) ∧ Kept [] w2 x6 ∧ B <= x6.heap.size) := (ai hoj (ai (own_far (H3.out.1.kept hkz (by simp)) (H3.out.2.1.tr hkz) HBW.out hkj) (Nat.le_trans H3.out.2.2 (Nat.le_trans hkz.size hkj.size)))); clear hpt hob hi4 hkz hoj hkj)
  | (refine wpList_app_run rfl (.tmp 39) (.tmp 42) 27 27 rfl (.slice p5 q5 c5) (.slice s6 W sc6) rfl rfl (.slice p6 (q5 + W) c6) x6 hrun ?_; clear hrun; try simp only [z4, z5, z6, z7, z8]))
 clear hrb hib
 clear H3
 obtain ⟨q6, hq6⟩ : ∃ q, q5 + W = q := ⟨_, rfl⟩
 have hqb6 : q6 <= 91 := by omega
 rw [hq6] at HX ⊢
 have H3 := HX
 clear HX hq6 hqb5
 have hnu := refnum8 n (by omega) x6
 go_upto_region 9 with (first
  | (go_at_call 55; refine hnu.mono ?_; rintro r z7 ⟨m7, s7, sc7, hm7, hb5, rfl, hsl, hs0, hkz⟩; obtain ⟨p7, c7, x7, hrun, hoj, hkj⟩ := app18 (H3.out.1.kept hkz (by simp)) (Nat.le_trans H3.out.2.2 hkz.size) s7 m7 sc7 (Pure.enc n) hm7 hsl hs0 (by omega); have HX : Hid (OwnB x7 B (.slice p7 (q6 + m7) c7) ([68] ++ Pure.enc W ++ Pure.enc Z ++ Pure.enc N ++ bid.take W ++ Pure.enc M ++ tid.take W ++ Pure.enc n) ∧ Kept [] w2 x7 ∧ B <= x7.heap.size) := (ai hoj (ai (own_far (H3.out.1.kept hkz (by simp)) (H3.out.2.1.tr hkz) HBW.out hkj) (Nat.le_trans H3.out.2.2 (Nat.le_trans hkz.size hkj.size)))); clear hnu hm7 hsl hs0 hkz hoj hkj)
  | (refine wpList_app_run rfl (.tmp 44) (.tmp 47) 27 27 rfl (.slice p6 q6 c6) (.slice s7 m7 sc7) rfl rfl (.slice p7 (q6 + m7) c7) x7 hrun ?_; clear hrun; try simp only [z4, z5, z6, z7, z8]))
 clear H3
 obtain ⟨q7, hq7⟩ : ∃ q, q6 + m7 = q := ⟨_, rfl⟩
 have hqb7 : q7 <= 96 := by omega
 rw [hq7] at HX ⊢
 have H3 := HX
 clear HX hq7 hb5 hqb6
 obtain ⟨hd, hhd⟩ : ∃ hd : List UInt8, [68] ++ Pure.enc W ++ Pure.enc Z ++ Pure.enc N ++ bid.take W ++ Pure.enc M ++ tid.take W ++ Pure.enc n = hd := ⟨_, rfl⟩
 rw [hhd] at H3
 have HHD := hide hhd
 have HIN : Hid (OwnB x7 B (.slice p7 q7 c7) (hd ++ encT (T.take 0)) ∧ Kept [] w2 x7 ∧ B <= x7.heap.size) := by show _ ∧ _; simpa [encT] using H3.out
 have HDL : Hid (hd.length = q7) := own_len H3.out.1
 clear H3 hhd
 go_wp2
 go_loopw [15, 16] (fun x y wr => ∃ (k q : Nat) (po : Option Addr) (pc : Nat), k <= n ∧ q <= 500000100 ∧ x = .slice po q pc ∧ y = .int .i64 k ∧ Hid (OwnB wr B (.slice po q pc) (hd ++ encT (T.take k)) ∧ Kept [] w2 wr ∧ B <= wr.heap.size)) (fun x y wr => n - (intOf y).toNat)
 case atStart => exact ⟨0, q7, p7, c7, Nat.zero_le _, by omega, rfl, rfl, HIN⟩
 case round =>
  clear HIN
  obtain ⟨k, q, po, pc, hk, hqb, rfl, rfl, HP⟩ := hrel
  by_cases hlt : k < n
  ·have hkt : k < T.length := by rw [HTL.out]; exact hlt
   obtain ⟨x, hx⟩ : ∃ x, T[k]? = some x := ⟨_, List.getElem?_eq_getElem hkt⟩
   obtain ⟨⟨ga, oa, rfl, hra⟩, hxo⟩ := (HT.out.kept HK2.out) k x hx
   have HRA := hide hra
   have HXO := hide hxo
   have HTK := hide (encT_take hx)
   have hql : q + (encI x.stp).length <= 500000100 := by
    have h1 := encT_le T (k + 1)
    have h2 := own_len HP.out.1
    rw [HTK.out, List.length_append] at h1
    rw [List.length_append, HDL.out] at h2
    have h3 := HE.out
    omega
   obtain ⟨f, hf⟩ := nm (x.f)
   obtain ⟨c, hc⟩ := nm (x.c)
   have hfb : f <= 2147483647 := by rw [<-hf]; exact hxo.f
   have hcb : c <= 2147483647 := by rw [<-hc]; exact hxo.c
   have a0 : wr.cell? ⟨ga, oa + k * 3, none⟩ = some (.int .i64 (f : Nat)) := by have := HP.out.2.1.cellOf (hra 0 _ rfl) (by simp); rw [hf] at this; simpa using this
   have a1 : wr.cell? ⟨ga, oa + k * 3 + 1, none⟩ = some (.int .i64 (c : Nat)) := by have := HP.out.2.1.cellOf (hra 1 _ rfl) (by simp); rw [hc] at this; exact this
   clear hra hxo hkt hx
   by_cases hcp : 0 < c
   ·have HEN : Hid (encI x.stp = [1] ++ Pure.enc f ++ Pure.enc c) := by
     show _ = _
     unfold Tr.stp
     rw [hc, if_pos hcp, hf]
     show Pure.fix 1 1 ++ _ = _
     rw [show Pure.fix 1 1 = [1] from rfl, List.append_assoc]
    have hcp1 : (0 : Int) < (c : Int) := by omega
    rw [HEN.out] at hql
    simp only [List.length_append, List.length_singleton] at hql
    have ka := ka wr (.cells #[.int .u8 1] 5)
    have hon : Sl (wr.alloc (.cells #[.int .u8 1] 5)) (some ⟨wr.heap.size, 0, none⟩) [1] := (own_in8 (own_one9 wr 1)).sl
    obtain ⟨p8, c8, x8, hrun, hoj, hkj⟩ := app18 (HP.out.1.kept ka (by simp)) (Nat.le_trans HP.out.2.2 ka.size) (some ⟨wr.heap.size, 0, none⟩) 1 1 [1] rfl hon (fun e => by cases e) (by omega)
    have HX : Hid (OwnB x8 B (.slice p8 (q + 1) c8) (hd ++ encT (T.take k) ++ [1]) ∧ Kept [] w2 x8 ∧ B <= x8.heap.size) := ⟨hoj, own_far (HP.out.1.kept ka (by simp)) (HP.out.2.1.tr ka) HBW.out hkj, Nat.le_trans HP.out.2.2 (Nat.le_trans ka.size hkj.size)⟩
    clear hoj hkj hon ka HP
    go_upto_region 14 with (refine wpList_app_run rfl (.tmp 61) (.tmp 62) 27 27 rfl (.slice po q pc) (.slice (some ⟨wr.heap.size, 0, none⟩) 1 1) rfl rfl (.slice p8 (q + 1) c8) x8 hrun ?_; clear hrun; try simp only [z4, z5, z6, z7, z8])
    clear a0 a1
    have a0 : x8.cell? ⟨ga, oa + k * 3, none⟩ = some (.int .i64 (f : Nat)) := by have := HX.out.2.1.cellOf (HRA.out 0 _ rfl) (by simp); rw [hf] at this; simpa using this
    obtain ⟨q8, hq8⟩ := nm (q + 1)
    rw [hq8] at HX ⊢
    have hnu := refnum8 f hfb x8
    go_upto_region 15 with (first
     | (go_at_call 55; refine hnu.mono ?_; rintro r z9 ⟨m9, s9, sc9, hm9, hm5, rfl, hsl, hs0, hkz⟩; obtain ⟨p9, c9, x9, hrun, hoj, hkj⟩ := app18 (HX.out.1.kept hkz (by simp)) (Nat.le_trans HX.out.2.2 hkz.size) s9 m9 sc9 (Pure.enc f) hm9 hsl hs0 (by omega); have H9 : Hid (OwnB x9 B (.slice p9 (q8 + m9) c9) (hd ++ encT (T.take k) ++ [1] ++ Pure.enc f) ∧ Kept [] w2 x9 ∧ B <= x9.heap.size) := (ai hoj (ai (own_far (HX.out.1.kept hkz (by simp)) (HX.out.2.1.tr hkz) HBW.out hkj) (Nat.le_trans HX.out.2.2 (Nat.le_trans hkz.size hkj.size)))); clear hnu hsl hs0 hkz hoj hkj)
     | (refine wpList_app_run rfl (.tmp 64) (.tmp 70) 27 27 rfl (.slice p8 q8 c8) (.slice s9 m9 sc9) rfl rfl (.slice p9 (q8 + m9) c9) x9 hrun ?_; clear hrun; try simp only [z4, z5, z6, z7, z8]))
    clear a0 HX
    have a1 : x9.cell? ⟨ga, oa + k * 3 + 1, none⟩ = some (.int .i64 (c : Nat)) := by have := H9.out.2.1.cellOf (HRA.out 1 _ rfl) (by simp); rw [hc] at this; exact this
    obtain ⟨q9, hq9⟩ := nm (q8 + m9)
    rw [hq9] at H9 ⊢
    have hnu := refnum8 c hcb x9
    go_wp2_with (first
     | (go_at_call 55; refine hnu.mono ?_; rintro r z10 ⟨m10, s10, sc10, hm10, hm55, rfl, hsl, hs0, hkz⟩; obtain ⟨p10, c10, x10, hrun, hoj, hkj⟩ := app18 (H9.out.1.kept hkz (by simp)) (Nat.le_trans H9.out.2.2 hkz.size) s10 m10 sc10 (Pure.enc c) hm10 hsl hs0 (by omega); obtain ⟨q10, hq10⟩ := nm (q9 + m10); rw [hq10] at hrun hoj; have HQ10 := hide hq10; have H10 : Hid (OwnB x10 B (.slice p10 q10 c10) (hd ++ encT (T.take k) ++ [1] ++ Pure.enc f ++ Pure.enc c) ∧ Kept [] w2 x10 ∧ B <= x10.heap.size) := (ai hoj (ai (own_far (H9.out.1.kept hkz (by simp)) (H9.out.2.1.tr hkz) HBW.out hkj) (Nat.le_trans H9.out.2.2 (Nat.le_trans hkz.size hkj.size)))); clear hnu hsl hs0 hkz hoj hkj hq10)
     | (refine wpList_app_run rfl (.tmp 72) (.tmp 78) 27 27 rfl (.slice p9 q9 c9) (.slice s10 m10 sc10) rfl rfl (.slice p10 q10 c10) x10 hrun ?_; clear hrun; try simp only [z4, z5, z6, z7, z8]))
    clear a1 H9
    have HPF : Hid (OwnB x10 B (.slice p10 q10 c10) (hd ++ encT (T.take (k + 1))) ∧ Kept [] w2 x10 ∧ B <= x10.heap.size) := by rw [HTK.out, HEN.out, <-List.append_assoc, <-List.append_assoc, <-List.append_assoc]; exact H10.out
    have hqq : q10 <= 500000100 := by have := HQ10.out; rw [hm9, hm10] at hql; omega
    clear H10 HTK HEN HRA HXO hq8 hq9 hql hm9 hm10 hm5 hm55
    go_roundw
    case rel => exact ⟨k + 1, q10, p10, c10, by omega, hqq, rfl, by go_num, HPF⟩
    case measure => simp [intOf]; omega
   ·obtain rfl : c = 0 := by omega
    have HEN : Hid (encI x.stp = [2] ++ (Pure.enc x.n ++ x.bs)) := by
     show _ = _
     unfold Tr.stp
     rw [hc, if_neg hcp]
     show Pure.fix 2 1 ++ _ = _
     rw [show Pure.fix 2 1 = [2] from rfl, HXO.out.inb.len]
    rw [HEN.out] at hql
    rw [List.length_append, List.length_singleton] at hql
    have ka := ka wr (.cells #[.int .u8 2] 5)
    have hon : Sl (wr.alloc (.cells #[.int .u8 2] 5)) (some ⟨wr.heap.size, 0, none⟩) [2] := (own_in8 (own_one9 wr 2)).sl
    obtain ⟨p8, c8, x8, hrun, hoj, hkj⟩ := app18 (HP.out.1.kept ka (by simp)) (Nat.le_trans HP.out.2.2 ka.size) (some ⟨wr.heap.size, 0, none⟩) 1 1 [2] rfl hon (fun e => by cases e) (by omega)
    have HX : Hid (OwnB x8 B (.slice p8 (q + 1) c8) (hd ++ encT (T.take k) ++ [2]) ∧ Kept [] w2 x8 ∧ B <= x8.heap.size) := ⟨hoj, own_far (HP.out.1.kept ka (by simp)) (HP.out.2.1.tr ka) HBW.out hkj, Nat.le_trans HP.out.2.2 (Nat.le_trans ka.size hkj.size)⟩
    clear hoj hkj hon ka HP
    go_upto_region 17 with (refine wpList_app_run rfl (.tmp 80) (.tmp 81) 27 27 rfl (.slice po q pc) (.slice (some ⟨wr.heap.size, 0, none⟩) 1 1) rfl rfl (.slice p8 (q + 1) c8) x8 hrun ?_; clear hrun; try simp only [z4, z5, z6, z7, z8])
    clear a0 a1
    have hxi := (HXO.out.kept HX.out.2.1).inb
    have hxn := HXO.out.n
    have a2 : x8.cell? ⟨ga, oa + k * 3 + 2, none⟩ = some (.slice x.ao x.n x.cap) := HX.out.2.1.cellOf (HRA.out 2 _ rfl) (by simp)
    obtain ⟨bs, hbs⟩ := nm (x.bs)
    obtain ⟨ao, hao⟩ := nm (x.ao)
    obtain ⟨xn, hxn2⟩ := nm (x.n)
    obtain ⟨xc, hxc⟩ := nm (x.cap)
    rw [hbs, hao, hxn2, hxc] at hxi
    rw [hao, hxn2, hxc] at a2
    rw [hbs, hxn2] at hql HEN
    rw [hxn2] at hxn
    clear hbs hao hxn2 hxc
    obtain ⟨q8, hq8⟩ := nm (q + 1)
    rw [hq8] at HX ⊢
    have htx := rtext_ok ao xn xc bs x8 hxi hxn
    go_wp2_with (first
     | (go_at_call 57; refine htx.mono ?_; rintro r z9 ⟨m9, s9, sc9, hm9, hm5, rfl, hsl, hs0, hkz⟩; obtain ⟨p9, c9, x9, hrun, hoj, hkj⟩ := app18 (HX.out.1.kept hkz (by simp)) (Nat.le_trans HX.out.2.2 hkz.size) s9 m9 sc9 (Pure.enc xn ++ bs) hm9 hsl hs0 (by omega); obtain ⟨q9, hq9⟩ := nm (q8 + m9); rw [hq9] at hrun hoj; have HQ9 := hide hq9; have H9 : Hid (OwnB x9 B (.slice p9 q9 c9) (hd ++ encT (T.take k) ++ [2] ++ (Pure.enc xn ++ bs)) ∧ Kept [] w2 x9 ∧ B <= x9.heap.size) := (ai hoj (ai (own_far (HX.out.1.kept hkz (by simp)) (HX.out.2.1.tr hkz) HBW.out hkj) (Nat.le_trans HX.out.2.2 (Nat.le_trans hkz.size hkj.size)))); clear htx hsl hs0 hkz hoj hkj hq9)
     | (refine wpList_app_run rfl (.tmp 83) (.tmp 89) 27 27 rfl (.slice p8 q8 c8) (.slice s9 m9 sc9) rfl rfl (.slice p9 q9 c9) x9 hrun ?_; clear hrun; try simp only [z4, z5, z6, z7, z8]))
    clear a2 HX
    have HPF : Hid (OwnB x9 B (.slice p9 q9 c9) (hd ++ encT (T.take (k + 1))) ∧ Kept [] w2 x9 ∧ B <= x9.heap.size) := by rw [HTK.out, HEN.out, <-List.append_assoc, <-List.append_assoc]; exact H9.out
    have hqq : q9 <= 500000100 := by have := HQ9.out; rw [hm9] at hql; omega
    clear H9 HTK HEN HRA HXO hq8 hql hm9 hm5 hxi hxn
    go_roundw
    case rel => exact ⟨k + 1, q9, p9, c9, by omega, hqq, rfl, by go_num, HPF⟩
    case measure => simp [intOf]; omega
  ·obtain rfl : k = n := by omega
   have ho := HP.out.1
   rw [List.take_of_length_le (by rw [HTL.out]; exact Nat.le_refl _)] at ho
   have hse := rsealed_ok B po q pc (hd ++ encT T) wr ho HP.out.2.2 (by omega)
   have HO := hide ho
   have HKw := hide HP.out.2
   have HWB : Hid (sealed (hd ++ encT T) = writtenB W Z N bid M tid T) := by show _ = _; unfold writtenB; rw [<-HHD.out, HTL.out]
   rw [HWB.out] at hse
   clear HP ho
   go_wp2_with (go_at_call 58; refine hse.mono ?_; rintro r wz ⟨⟨eo, ec, rfl, hoz⟩, hkz⟩; have HZ := hide (ai hoz hkz); clear hse hoz hkz)
   go_ret
   refine ⟨⟨eo, q + 4, ec, rfl, ?_⟩, HK2.out.tr (own_far HO.out HKw.out.1 HBW.out HZ.out.2)⟩
   have := HZ.out.1
   unfold OwnB at this ⊢
   exact own_base this HAB.out
end

section
theorem rof_of (width : Int) (ao : Option Addr) (cap : Nat) (m : List UInt8) (w : World) (n : Nat)
  (hfull : ∀ w1, Below w.heap.size w w1 -> Calls Tryz.prog 40 #[.slice ao n cap] w1 fun e w' => e = .returned (.agg (bys (Sha.full m)).toArray) ∧ Below w1.heap.size w1 w') :
  Calls Tryz.prog 10 #[.int .i64 width, .slice ao n cap] w fun e w' => e = .returned (.agg (bys (Sha.ident width m)).toArray) ∧ Below w.heap.size w w' := by
 have hz := Tryz.zeroB32
 have hz2 := Tryz.zeroID
 obtain ⟨r, hr⟩ : ∃ r, r = w.heap.size := ⟨_, rfl⟩
 obtain ⟨g, hg⟩ : ∃ r, r = w.heap.size + 1 := ⟨_, rfl⟩
 have hg1 : ((w.alloc (.cells zero32 23)).alloc (.cells zero32 23)).heap[w.heap.size + 1]? = some (.cells zero32 23 (0, 0)) := heap_alloc2_new _ _ _
 have hr1 : ((w.alloc (.cells zero32 23)).alloc (.cells zero32 23)).heap[w.heap.size]? = some (.cells zero32 23 (0, 0)) := heap_alloc2_old _ _ _
 have hB1 : Below w.heap.size w ((w.alloc (.cells zero32 23)).alloc (.cells zero32 23)) := ((Below.refl _ _).alloc (Nat.le_refl _) _).alloc (by simp) _
 have HFU := (show Hid (∀ _, _) from hfull)
 have HG : Hid (r = w.heap.size ∧ g = w.heap.size + 1) := ⟨hr, hg⟩
 clear hfull
 go_enter Tryz.func10, Tryz.ntmps10
 by_cases hout : width < 1 ∨ 32 < width
 ·have HF : Hid (Sha.ident width m = List.replicate 32 0) := by
   show _ = _
   unfold Sha.ident; rw [if_pos hout]
  have hz0 : zero32.all (·.oneCell') = true := bys_all _
  have FIN : Hid (∀ (a : Act), a.defers = [] -> a.tmps.getD 4 undef = .pointer (some ⟨w.heap.size, 0, none⟩) -> bodyPost Tryz.prog Tryz.f10 (fun e w' => e = .returned (.agg (bys (Sha.ident width m)).toArray) ∧ Below w.heap.size w w') .ret a (((w.alloc (.cells zero32 23)).alloc (.cells zero32 23)).setRow w.heap.size zero32)) := fun a hd hp =>
   ret_row rfl hd w.heap.size 23 zero32 (0, 0) _ hp (setRow_heap _ _ _ _ _ _ hr1) Tryz.underlying23 rfl Tryz.infoID ⟨by rw [HF.out]; rfl, below_row hB1 (Nat.le_refl _) _⟩
  by_cases h1 : width < 1
  ·go_wp2_with (first | refine wpList_load_row rfl 23 (.tmp 5) rfl (w.heap.size + 1) rfl 23 _ (0, 0) _ hg1 Tryz.underlying23 rfl Tryz.infoID ?_ | refine wpList_store_rowTo rfl 23 (.tmp 4) (.tmp 14) rfl rfl w.heap.size zero32 rfl rfl 23 zero32 hr1 Tryz.infoID rfl hz0 ?_)
   exact FIN.out _ rfl rfl
  ·have h2 : 32 < width := by omega
   go_wp2_with (first | refine wpList_load_row rfl 23 (.tmp 5) rfl (w.heap.size + 1) rfl 23 _ (0, 0) _ hg1 Tryz.underlying23 rfl Tryz.infoID ?_ | refine wpList_store_rowTo rfl 23 (.tmp 4) (.tmp 14) rfl rfl w.heap.size zero32 rfl rfl 23 zero32 hr1 Tryz.infoID rfl hz0 ?_)
   exact FIN.out _ rfl rfl
 ·obtain ⟨k, rfl⟩ := Int.eq_ofNat_of_zero_le (show 0 <= width by omega)
  have h1 : ¬ ((k : Int) < 1) := by omega
  have h2 : ¬ (32 < (k : Int)) := by omega
  have hk32 : k <= 32 := by omega
  have HF : Hid (Sha.ident (k : Int) m = (Sha.full m).take k ++ List.replicate (32 - k) 0) := by
   show _ = _
   unfold Sha.ident; rw [if_neg hout]; rfl
  have H1 := (show Hid (_ ∧ _ ∧ _) from ⟨hg1, hr1, hB1⟩)
  clear hg1 hr1 hB1
  go_wp2_with (fail)
  generalize (w.alloc _).alloc _ = w1 at H1 ⊢
  rw [<-hg, <-hr] at ⊢
  refine (HFU.out w1 H1.out.2.2).mono ?_
  rintro e w2 ⟨rfl, hb2⟩
  have hg2 : w2.heap[g]? = some (.cells zero32 23 (0, 0)) := by rw [hg]; exact (hb2.block _ (gs H1.out.1).1).trans H1.out.1
  have hr2 : w2.heap[r]? = some (.cells zero32 23 (0, 0)) := by rw [hr]; exact (hb2.block _ (gs H1.out.2.1).1).trans H1.out.2.1
  have hB2 : Below w.heap.size w w2 := H1.out.2.2.trans (hb2.mono H1.out.2.2.size)
  clear H1 hb2 HFU hr hg hz2
  have hfl : (Sha.full m).length = 32 := Sha.full_len _
  generalize Sha.full m = F at hfl HF ⊢
  obtain ⟨f, hf⟩ : ∃ f, f = w2.heap.size := ⟨_, rfl⟩
  have hf1 : (w2.alloc (.cells zero32 22)).heap[w2.heap.size]? = some (.cells zero32 22 (0, 0)) := heap_alloc_new _ _
  have hinf : (Tryz.prog.info? 22).map (·.size) = some (bys F).toArray.size := by rw [List.size_toArray, bys_length, hfl]; exact Tryz.info32
  have hz0 : zero32.size = (bys F).toArray.size := by rw [show (bys F).toArray.size = 32 by rw [List.size_toArray, bys_length, hfl]]; rfl
  have hone := bys_all F
  go_wp2_with (refine wpList_store_rowTo rfl 22 (.tmp 6) (.tmp 16) rfl rfl w2.heap.size (bys F).toArray rfl rfl 22 zero32 hf1 hinf hz0 hone ?_)
  have hf3 : ((w2.alloc (.cells zero32 22)).setRow w2.heap.size (bys F).toArray).heap[f]? = some (.cells (bys F).toArray 22 (0, 0)) := by rw [hf]; exact setRow_heap _ _ _ _ _ _ hf1
  have hgl : g < w2.heap.size := (gs hg2).1
  have hrl : r < w2.heap.size := (gs hr2).1
  have HI : Hid (Fill32 w ((w2.alloc (.cells zero32 22)).setRow w2.heap.size (bys F).toArray) 23 r g (idl F 0)) := by
   have := HG.out
   refine ⟨by rw [setRow_other _ _ _ _ (by omega), heap_alloc_old w2 _ hrl]; exact hr2, by rw [setRow_other _ _ _ _ (by omega), heap_alloc_old w2 _ hgl]; exact hg2, by simp [idl], below_row (hB2.alloc hB2.size _) hB2.size _, by omega⟩
  have HCF : Hid (∀ i, i < 32 -> ((w2.alloc (.cells zero32 22)).setRow w2.heap.size (bys F).toArray).cell? ⟨f, i, none⟩ = some (.int .u8 (F.getD i 0).toNat)) := fun i hi => by
   rw [cell_of_row _ _ _ _ _ _ hf3, List.getElem?_toArray, bys_at (by omega)]
  clear hf1 hinf hz0 hone hg2 hr2 hB2 hf3
  generalize World.setRow _ _ _ = w3 at HI HCF ⊢
  rw [<-hf]
  have hfg : Hid (f ≠ g) := by show _ ≠ _; omega
  clear hf hgl hrl
  go_loopw [7] (fun x wr => ∃ i : Nat, i <= k ∧ x = .int .i64 i ∧ Hid (Fill32 w wr 23 r g (idl F i)) ∧ Hid (∀ i, i < 32 -> wr.cell? ⟨f, i, none⟩ = some (.int .u8 (F.getD i 0).toNat))) (fun x wr => k - (intOf x).toNat)
  case atStart => exact ⟨0, by omega, rfl, HI, HCF⟩
  case round =>
   clear HI HCF
   obtain ⟨i, hi, rfl, HI, HC⟩ := hrel
   by_cases hlt : i < k
   ·have li : (i : Int) < 32 := by omega
    have cf := HC.out i (by omega)
    have ci := HI.out.cell i (by omega)
    have fi := HI.out.frozen i
    have HS : Hid (Fill32 w (wr.setCell ⟨g, i, none⟩ (.int .u8 (F.getD i 0).toNat)) 23 r g (idl F (i + 1))) := HI.out.set i _
    have HC2 : ∀ v, Hid (∀ j, j < 32 -> (wr.setCell ⟨g, i, none⟩ v).cell? ⟨f, j, none⟩ = some (.int .u8 (F.getD j 0).toNat)) := fun v j hj => by
     rw [World.cell?_setCell_other _ _ _ _ (by intro e; injection e with e1; exact hfg.out e1.symm)]
     exact HC.out j hj
    clear HI HC
    generalize (idl F i).getD i 0 = old at ci
    generalize F.getD i 0 = x at cf HS
    go_wp2
    go_roundw
    case rel => exact ⟨i + 1, by omega, by go_num, HS, HC2 _⟩
    case measure => simp [intOf]; omega
   ·obtain rfl : i = k := by omega
    have h1 := HI.out.arr
    have h2 := HI.out.res
    have hlen : (bys (idl F i)).toArray.size = 32 := by simp [bys_length, HI.out.len]
    have hinf : (Tryz.prog.info? 23).map (·.size) = some (bys (idl F i)).toArray.size := by rw [hlen]; exact Tryz.infoID
    have hz0 : zero32.size = (bys (idl F i)).toArray.size := by rw [hlen]; rfl
    have hone := bys_all (idl F i)
    have HFIN : Hid (idl F i = Sha.ident (i : Int) m) := (idl_eq F hfl i hk32).trans HF.out.symm
    generalize idl F i = I at h1 hlen hinf hone hz0 HFIN HI
    go_wp2_with (first | refine wpList_load_row rfl 23 (.tmp 5) rfl g rfl 23 _ (0, 0) _ h1 Tryz.underlying23 rfl hinf ?_ | refine wpList_store_rowTo rfl 23 (.tmp 4) (.tmp 27) rfl rfl r (bys I).toArray rfl rfl 23 zero32 h2 hinf hz0 hone ?_)
    exact ret_row rfl rfl r 23 _ (0, 0) _ rfl (setRow_heap _ _ _ _ _ _ h2) Tryz.underlying23 rfl hinf ⟨by rw [HFIN.out], below_row HI.out.below HI.out.ps.1 _⟩
end

section
open Dlt
theorem rof_ok (width : Int) (ao : Option Addr) (n cap : Nat) (m : List UInt8) (w : World) (hn : m.length = n) (hlen : n <= 140737488351232) (hs : Sl w ao m) (hnl : ao = none -> m = [] ∧ cap = 0) :
  Calls Tryz.prog 10 #[.int .i64 width, .slice ao n cap] w fun e w' => e = .returned (.agg (bys (Sha.ident width m)).toArray) ∧ Kept [] w w' :=
 (rof_of width ao cap m w n fun w1 hb => rfull_any ao cap m w1 n hn hlen (hs.kept (Kept.of_below hb) (by simp)) hnl).mono fun e w' h => ⟨h.1, Kept.of_below h.2⟩
end

section
open Dlt
theorem wpList_append_freshW (w : World) {ops : Array Oper} {rest : List Oper} {o : Oper} {a : Act} {Q : Exit -> Act -> World -> Prop} (hgd : o.guard = none) (s x : Operand)
  (ho : o.op = .call { callee := .builtin .append, args := #[s, x], argTypes := #[27, 27] }) (base g : Nat) (hs : a.eval s = .slice (some ⟨g, 0, none⟩) 0 0)
  (hown : w.ownsRow base 5 1 (.slice (some ⟨g, 0, none⟩) 0 0) 0 []) (da : Option Addr) (m dc : Nat) (ds : List UInt8) (hx : a.eval x = .slice da m dc) (hsl : Sl w da ds) (hm : ds.length = m) (hnl : da = none -> ds = [] ∧ dc = 0) (b1 : m <= 200000000000000) (hbase : base <= w.heap.size)
  (hK : ∀ g' c' w', w'.ownsRow base 5 1 (.slice (some ⟨g', 0, none⟩) m c') m (bys ds) -> w.grownBy w' (some g) -> wpList Tryz.prog ops Q rest (a.put o.dst (.slice (some ⟨g', 0, none⟩) m c')) w') :
  wpList Tryz.prog ops Q (o :: rest) a w := by
 obtain ⟨i0, hi, hz0, hz1, hz2⟩ := info_parts Tryz.infoByteD
 cases da with
 | none =>
  obtain ⟨rfl, rfl⟩ := hnl rfl
  subst hm
  exact wpList_append_own_none hgd s x 27 ho base 5 i0 1 Tryz.underlying27 hi _ 0 _ hs hown hx (hK g 0 w hown (World.grownBy.refl w _))
 | some ad =>
  refine wpList_append_own_wide w hgd s x 27 ho base 5 i0 (.int .u8 0) 1 1 Tryz.underlying27 hi hz0 hz1 hz2 rfl (by decide) _ 0 [] hs hown ad m dc (bys ds) hx (by rw [bys_length, hm, Nat.mul_one]) (src_of hsl) (bys_oneCell _) (by unfold maxLen; omega) (by omega) hbase ?_
  intro v' w' h1 h2 h3
  rw [Nat.zero_add, List.nil_append] at h1
  obtain ⟨g', c', hv, _⟩ := own_sl h1 (fun e => by have := (h3.1 e).1; cases this)
  subst hv
  exact hK g' c' w' h1 h2
theorem row_anyW (ao : Option Addr) (cap : Nat) (m : List UInt8) (w : World) (hs : Sl w ao m) (hnl : ao = none -> m = [] ∧ cap = 0) (hlen : m.length <= 200000000000000) (n : Nat) (hn : m.length = n) :
  Calls Tryz.prog 82 #[.slice ao n cap] w fun e w' => ∃ g c, e = .returned (.slice (some ⟨g, 0, none⟩) (n + Sha.size n) c) ∧ w.heap.size <= g ∧ g < w'.heap.size ∧ n + Sha.size n <= c ∧ Sl w' (some ⟨g, 0, none⟩) (m ++ Sha.ending n) ∧ Below w.heap.size w w' := by
 obtain ⟨i0, hi, hz0, hz1, hz2⟩ := info_parts Tryz.infoByteD
 have HN : Hid (m.length = n) := hn
 rw [hn] at hlen
 have hsrc : Hid (Sl (w.alloc (.cells #[] 5)) ao m) := hs.kept ((Kept.refl [] w).alloc _) (by simp)
 have HNL : Hid (ao = none -> m = [] ∧ cap = 0) := hnl
 clear hnl
 clear hs hn
 have HZ : Hid (9 <= Sha.size n ∧ Sha.size n <= 72 ∧ (n + Sha.size n) % 64 = 0) := Sha.size_ge n
 have HE : Hid (Sha.ending n = 128 :: (List.replicate (Sha.size n - 9) 0 ++ Sha.be8 (8 * n % 18446744073709551616))) := rfl
 obtain ⟨z, hz⟩ : ∃ z, z = Sha.size n := ⟨_, rfl⟩
 rw [<-hz] at HZ HE ⊢
 have hzz := HZ.out
 have h8 : 8 * n % 18446744073709551616 = 8 * n := by omega
 rw [h8] at HE
 clear h8 hz
 go_enter Tryz.func82, Tryz.ntmps82
 have hO0 : (w.alloc (.cells #[] 5)).ownsRow w.heap.size 5 1 (.slice (some ⟨w.heap.size, 0, none⟩) 0 0) 0 [] := World.ownsRow_made w #[] 0 (Nat.le_refl _) (by decide) rfl
 go_wp2_with (at_builtin; refine wpList_append_freshW _ rfl _ _ rfl w.heap.size w.heap.size rfl hO0 ao n cap m rfl hsrc.out HN.out HNL.out (by omega) (by simp) ?_)
 intro g0 c0 w0 hown hgrow
 have HR0 : Hid (Grow w w0 (.slice (some ⟨g0, 0, none⟩) n c0) m) := by
  refine ⟨?_, ((Kept.refl [] w).alloc _).grown hgrow (by intro k hk hlt; simp [Value.ownBlock] at hk; omega)⟩
  rw [HN.out]
  exact hown
 clear hown hgrow hsrc hO0 HNL
 go_wp2_with (at_builtin; refine wpList_append_own_wide _ rfl _ _ 27 rfl w.heap.size 5 i0 (.int .u8 0) 1 1 Tryz.underlying27 hi hz0 hz1 hz2 rfl (by decide) _ _ _ rfl (HR0.out.own.alloc _) ⟨w0.heap.size, 0, none⟩ 1 1 [.int .u8 128] rfl rfl (one_cells_at _ _ _ _ _ rfl) (by simp [Value.oneCell']) ?c3 ?c4 ?c5 ?_)
 case c3 => rw [HN.out]; unfold maxLen; omega
 case c4 => rw [HN.out]; omega
 case c5 => have := HR0.out.kept.size; simp; omega
 intro v' w1 hown hgrow hnn
 have HR : Hid (Grow w w1 v' (m ++ 128 :: List.replicate 0 0)) := HR0.out.one rfl hown hgrow
 obtain ⟨g1, c1, hv1, _⟩ := HR.out.shape hnn
 rw [show (m ++ 128 :: List.replicate 0 (0 : UInt8)).length = n + 1 by rw [<-HN.out]; simp] at hv1
 rw [hv1] at HR ⊢
 clear hown hgrow hnn HR0 hv1
 go_wp2
 go_loopw [3] (fun v wr => ∃ j g c : Nat, j <= z - 9 ∧ v = .slice (some ⟨g, 0, none⟩) (n + 1 + j) c ∧ Hid (Grow w wr (.slice (some ⟨g, 0, none⟩) (n + 1 + j) c) (m ++ 128 :: List.replicate j 0))) (fun v wr => n + z - lenOfD v)
 case atStart =>
  exact ⟨0, g1, c1, by omega, rfl, HR⟩
 case round =>
  clear HR
  obtain ⟨j, g, c, hj, rfl, HR⟩ := hrel
  have hlj : (m ++ 128 :: List.replicate j (0 : UInt8)).length = n + 1 + j := by rw [<-HN.out]; simp; omega
  have hiff := zeros_more n z j hzz hj
  by_cases hlt : j < z - 9
  ·have htm : ((n : Int) + 1 + (j : Int)).tmod 64 ≠ 56 := by
    rw [Int.tmod_eq_emod_of_nonneg (by omega)]
    intro h
    have : (n + 1 + j) % 64 = 56 := by omega
    have := hiff.1 this
    omega
   have htb : (((n : Int) + 1 + (j : Int)) % 64 != 56) = true := by
    rw [Int.tmod_eq_emod_of_nonneg (by omega)] at htm
    simpa using htm
   clear htm hiff
   have hown := HR.out.own.alloc (.cells #[.int .u8 0] 5)
   rw [hlj] at hown
   go_wp2_with (at_builtin; refine wpList_append_own_wide _ rfl _ _ 27 rfl w.heap.size 5 i0 (.int .u8 0) 1 1 Tryz.underlying27 hi hz0 hz1 hz2 rfl (by decide) _ _ _ rfl hown ⟨wr.heap.size, 0, none⟩ 1 1 [.int .u8 0] rfl rfl (one_cells_at _ _ _ _ _ rfl) (by simp [Value.oneCell']) ?c3 ?c4 ?c5 ?_)
   case c3 => unfold maxLen; omega
   case c4 => omega
   case c5 => have := HR.out.kept.size; simp; omega
   intro v' w2 hown2 hgrow hnn
   have HR2 : Hid (Grow w w2 v' (m ++ 128 :: List.replicate (j + 1) 0)) := by
    have := HR.out.one (c := 0) rfl (by rw [hlj]; exact hown2) hgrow
    rw [List.append_assoc, List.cons_append, <-List.replicate_succ'] at this
    exact this
   obtain ⟨g2, c2, hv2, _⟩ := HR2.out.shape hnn
   have e : (m ++ 128 :: List.replicate (j + 1) (0 : UInt8)).length = n + 1 + (j + 1) := by rw [<-HN.out]; simp; omega
   rw [e] at hv2
   rw [hv2] at HR2 ⊢
   clear hown hown2 hgrow hnn HR hv2 htb
   go_wp2
   go_roundw
   case rel => exact ⟨j + 1, g2, c2, by omega, rfl, HR2⟩
   case measure => simp only [lenOfD]; omega
  ·have htm : ((n : Int) + 1 + (j : Int)).tmod 64 = 56 := by
    rw [Int.tmod_eq_emod_of_nonneg (by omega)]
    have := hiff.2 (by omega)
    omega
   clear hiff
   obtain rfl : j = z - 9 := by omega
   have htb : (((n : Int) + 1 + ((z - 9 : Nat) : Int)) % 64 != 56) = false := by
    rw [Int.tmod_eq_emod_of_nonneg (by omega)] at htm
    rw [htm]; rfl
   have HR0 : Hid (Grow w wr (.slice (some ⟨g, 0, none⟩) (n + 1 + (z - 9) + 0) c) (m ++ 128 :: List.replicate (z - 9) 0 ++ (Sha.be8 (8 * n)).take 0)) := by rw [List.take_zero, List.append_nil, Nat.add_zero]; exact HR.out
   obtain ⟨p, hp⟩ : ∃ p, p = z - 9 := ⟨_, rfl⟩
   obtain ⟨N, hN⟩ : ∃ N, N = 8 * n := ⟨_, rfl⟩
   have eN : 8 * (n : Int) = N := by omega
   rw [<-hN] at HE HR0
   rw [<-hp] at HE HR0 htm htb hlj ⊢
   have HPZ : Hid (p = z - 9) := hp
   have hp63 : p <= 63 := by omega
   have HNN : Hid (N = 8 * n) := hN
   clear HR hp hN hlt hj htm
   go_wp2
   go_loopw [3, 5] (fun v i wr => ∃ q g c : Nat, q <= 8 ∧ i = .int .i64 (7 - (q : Int)) ∧ v = .slice (some ⟨g, 0, none⟩) (n + 1 + p + q) c ∧ Hid (Grow w wr (.slice (some ⟨g, 0, none⟩) (n + 1 + p + q) c) (m ++ 128 :: List.replicate p 0 ++ (Sha.be8 N).take q))) (fun v i wr => (intOf i + 1).toNat)
   case atStart => exact ⟨0, g, c, by omega, rfl, rfl, HR0⟩
   case round =>
    clear HR0
    obtain ⟨q, g, c, hq, rfl, rfl, HR⟩ := hrel
    have hlq : (m ++ 128 :: List.replicate p (0 : UInt8) ++ (Sha.be8 N).take q).length = n + 1 + p + q := by rw [List.length_append, hlj, List.length_take, Sha.be8_len]; omega
    by_cases hlt : q < 8
    ·obtain ⟨i, hi7⟩ : ∃ i, i = 7 - q := ⟨_, rfl⟩
     have ei : (7 : Int) - (q : Int) = i := by omega
     have hib : i <= 7 := by omega
     have h0i : (0 : Int) <= (i : Int) := by omega
     have hN63 : N <= 9223372036854775807 := by have := HNN.out; omega
     rw [ei]
     have HI7 : Hid (i = 7 - q) := hi7
     clear ei hi7
     have hown := HR.out.own.alloc (.cells #[.int .u8 ((N : Int) / 2 ^ (8 * i) % 256)] 5)
     rw [hlq] at hown
     go_wp2_with (at_builtin; refine wpList_append_own_wide _ rfl _ _ 27 rfl w.heap.size 5 i0 (.int .u8 0) 1 1 Tryz.underlying27 hi hz0 hz1 hz2 rfl (by decide) _ _ _ rfl hown ⟨wr.heap.size, 0, none⟩ 1 1 [.int .u8 ((N : Int) / 2 ^ (8 * i) % 256)] rfl rfl (one_cells_at _ _ _ _ _ rfl) (by simp [Value.oneCell']) ?c3 ?c4 ?c5 ?_)
     case c3 => unfold maxLen; omega
     case c4 => omega
     case c5 => have := HR.out.kept.size; simp; omega
     intro v' w2 hown2 hgrow hnn
     have HR2 : Hid (Grow w w2 v' (m ++ 128 :: List.replicate p 0 ++ (Sha.be8 N).take (q + 1))) := by
      have h2 := hown2
      rw [<-List.cons_append, <-List.append_assoc] at h2
      have := HR.out.one (c := UInt8.ofNat (N / 256 ^ (7 - q) % 256)) (n := (N : Int) / 2 ^ (8 * i) % 256) (by
       rw [u8_mod, <-HI7.out, show (2 : Int) ^ (8 * i) = ((256 ^ i : Nat) : Int) by rw [Int.natCast_pow, Int.pow_mul]; rfl]
       simp) (by rw [hlq]; exact h2) hgrow
      rw [List.append_assoc, <-be8_get N q hlt] at this
      exact this
     obtain ⟨g2, c2, hv2, _⟩ := HR2.out.shape hnn
     have e : (m ++ 128 :: List.replicate p (0 : UInt8) ++ (Sha.be8 N).take (q + 1)).length = n + 1 + p + (q + 1) := by rw [List.length_append, hlj, List.length_take, Sha.be8_len]; omega
     rw [e] at hv2
     rw [hv2] at HR2 ⊢
     clear hown hown2 hgrow hnn HR hv2
     go_wp2
     go_roundw
     case rel => exact ⟨q + 1, g2, c2, by omega, by have := HI7.out; congr 1 <;> omega, rfl, HR2⟩
     case measure => have := HI7.out; simp [intOf] <;> omega
    ·obtain rfl : q = 8 := by omega
     obtain ⟨g2, c2, hv2, hg2, hg3, hc2, hsl2⟩ := HR.out.shape (by intro h; cases h)
     rw [hlq] at hv2
     cases hv2
     have HB := Kept.below HR.out.kept (Nat.le_refl _) (by simp)
     have hzp : n + 1 + p + 8 = n + z := by have := HPZ.out; omega
     rw [hlq, hzp] at hc2
     rw [List.take_of_length_le (by rw [Sha.be8_len]; exact Nat.le_refl _), List.append_assoc, List.cons_append, <-HE.out] at hsl2
     have FIN : Hid (w.heap.size <= g ∧ g < wr.heap.size ∧ n + z <= c ∧ Sl wr (some ⟨g, 0, none⟩) (m ++ Sha.ending n) ∧ Below w.heap.size w wr) := ⟨hg2, hg3, hc2, hsl2, HB⟩
     rw [hzp]
     clear HR hg2 hg3 hc2 hsl2 HB hlq hlj hzp
     go_wp2
     go_ret
     exact ⟨g, c, rfl, FIN.out⟩
theorem rof_okW (width : Int) (ao : Option Addr) (n cap : Nat) (m : List UInt8) (w : World) (hn : m.length = n) (hlen : n <= 200000000000000) (hs : Sl w ao m) (hnl : ao = none -> m = [] ∧ cap = 0) :
  Calls Tryz.prog 10 #[.int .i64 width, .slice ao n cap] w fun e w' => e = .returned (.agg (bys (Sha.ident width m)).toArray) ∧ Kept [] w w' :=
 (rof_of width ao cap m w n fun w1 hb => rfull_of ao cap m w1 n hn hlen fun w2 hb2 => row_anyW ao cap m w2 ((hs.kept (Kept.of_below hb) (by simp)).kept (Kept.of_below hb2) (by simp)) hnl (by omega) n hn).mono fun e w' h => ⟨h.1, Kept.of_below h.2⟩
end

section
namespace Pure
end Pure
namespace Dlt
theorem sealed_len (ys : List UInt8) : (sealed ys).length = ys.length + 4 := by unfold sealed; rw [List.length_append, Pure.fix_len]
end Dlt
end

end Go.Proofs.YtmklodligplbaabGreat
