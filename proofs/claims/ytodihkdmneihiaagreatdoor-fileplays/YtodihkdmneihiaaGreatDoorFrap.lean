import Derived.Test.YtodihkdmneihiaaGreatDoorFqbp
import Derived.Test.YtodihkdmneihiaaGreatDoorFqdp
import Derived.Laws.OwnMore
import Derived.Maps.AppendAt
import Derived.Test.YtodihkdmneihiaaGreatDoorId1p
import Derived.Test.YtodihkdmneihiaaGreatDoorJpp
namespace Go.Proofs.YtodihkdmneihiaaGreatDoor
section
open Go.RowKit
set_option linter.unusedVariables false
set_option linter.unusedSimpArgs false
theorem own_slc {w : World} {base : Nat} {bo : Option Addr} {n bc : Nat} {xs : List UInt8} (h : w.ownsRow base 5 1 (.slice bo n bc) n (bys xs)) : Sl w bo xs ∧ n ≤ bc ∧ (bo = none → xs = [] ∧ bc = 0) ∧ (∀ a, bo = some a → base ≤ a.block ∧ a.block < w.heap.size ∧ a.spot = none) := by
 rcases h.2 with ⟨e, e2⟩ | ⟨g, cap, cur, e, hb, hg, hn, _, hs, ht⟩
 ·injection e with e1 _ e3
  subst e1 e3
  have : xs = [] := List.eq_nil_of_length_eq_zero (by have := h.1; rw [bys_length, e2] at this; simpa using this)
  subst this
  exact ⟨Sl.nil _ _, by omega, fun _ => ⟨rfl, rfl⟩, by simp⟩
 ·obtain ⟨g', cap', e', h1, h2, h3, h4⟩ := own_sl h (by rw [e]; simp)
  injection e' with e1 _ e3
  subst e1 e3
  exact ⟨h4, h3, by simp, fun a ha => by cases ha; exact ⟨h1, h2, rfl⟩⟩
structure Rr where
 o : Option Addr
 c : Nat
 xs : List UInt8
def rr0 : Rr := ⟨none, 0, []⟩
instance : Inhabited Rr := ⟨rr0⟩
def Rr.val (r : Rr) : Value := .slice r.o r.xs.length r.c
def Rr.At (B : Nat) (w : World) (r : Rr) : Prop := w.ownsRow B 5 1 r.val r.xs.length (bys r.xs)
def Rr.blk (r : Rr) : Option Nat := r.val.ownBlock
def Off (a b : Option Nat) : Prop := ∀ k, a = some k → b ≠ some k
theorem Off.symm {a b : Option Nat} (h : Off a b) : Off b a := fun k hb ha => h k ha hb
theorem Off.none (a : Option Nat) : Off a none := fun k _ h => by simp at h
theorem own_keep {w w' : World} {B : Nat} {e : TypeId} {v : Value} {n : Nat} {xs : List Value} {row : Option Nat} (h : w.ownsRow B e 1 v n xs) (hg : w.grownBy w' row) (hne : Off v.ownBlock row) : w'.ownsRow B e 1 v n xs := by
 refine h.kept hg ?_
 rcases hb : v.ownBlock with _ | k
 ·exact .inl rfl
 ·exact .inr (fun e => hne k hb e.symm)
theorem Rr.At.keep {B : Nat} {w w' : World} {r : Rr} {row : Option Nat} (h : r.At B w) (hg : w.grownBy w' row) (hne : Off r.blk row) : r.At B w' := own_keep h hg hne
theorem Rr.At.blk_lt {B : Nat} {w : World} {r : Rr} (h : r.At B w) {k : Nat} (hk : r.blk = some k) : k < w.heap.size := (World.ownsRow.lt h k hk).2
theorem Rr.At.new {B : Nat} {w : World} {r : Rr} (h : r.At B w) {k : Nat} (hk : w.heap.size ≤ k) : Off r.blk (some k) := fun j hj e => by
 have := h.blk_lt hj
 cases e
 omega
theorem Rr.At.sl {B : Nat} {w : World} {r : Rr} (h : r.At B w) : Sl w r.o r.xs := (own_slc h).1
end

section
open Go.RowKit Dsk
set_option linter.unusedVariables false
set_option linter.unusedSimpArgs false
theorem cloneR_ok (ao : Option Addr) (n c : Nat) (xs : By) (w : World) (hn : xs.length = n) (h : Sl w ao xs) (h0 : ao = none → n = 0 ∧ c = 0) (hm : n ≤ 1073741824) :
  Calls Tryz.prog 91 #[.slice ao n c] w fun e w' => ∃ v, e = .returned v ∧ w'.ownsRow 0 5 1 v n (bys xs) ∧ Kept [] w w' ∧ (∀ g, v.ownBlock = some g → w.heap.size ≤ g) := by
 cases ao with
 | none =>
  obtain ⟨rfl, rfl⟩ := h0 rfl
  have : xs = [] := List.eq_nil_of_length_eq_zero hn
  subst this
  refine (cloneB_nil w).mono ?_
  rintro e w' ⟨rfl, rfl⟩
  exact ⟨_, rfl, World.ownsRow_nil _ _ _ _, Kept.refl _ _, by simp [Value.ownBlock]⟩
 | some ad =>
  have hk := (Kept.refl [] w).alloc (.cells #[] 5)
  refine (cloneB_some ad c n (bys xs) w (by rw [bys_length]; omega) (bys_oneCell xs) hm (fun j u hu => ?_)).mono ?_
  ·obtain ⟨hj, rfl⟩ := bys_get hu
   obtain ⟨b', off', e', hc⟩ := h j hj
   injection e' with e'
   subst e'
   rw [show ((⟨b', off', none⟩ : Addr).add j) = ⟨b', off' + j, none⟩ from by unfold Addr.add; by_cases h : j = 0 <;> simp [h]]
   exact hk.cellOf hc (by simp)
  ·rintro e w' ⟨v, rfl, ho, hk⟩
   exact ⟨v, rfl, ownsRow_base_a ho (Nat.zero_le _), hk, fun g hg => (ho.lt g hg).1⟩
def AftR (w w' : World) (p : Nat) (S' : Ds) (o : Lab) (v : Value) (xs : By) : Prop := ∃ A' o', PD w' p S' A' o' ∧ o.Ext o' w ∧ Keep o.mine w w' ∧ w'.ownsRow 0 5 1 v xs.length (bys xs) ∧ (∀ g, v.ownBlock = some g → w.heap.size ≤ g ∧ o' g = 0)
set_option maxHeartbeats 1600000 in
set_option maxRecDepth 100000 in
theorem readR_ok {w : World} {p : Nat} {S : Ds} {A : Nat → Nat} {o : Lab} {N : Nat} (h : PD w p S A o) (hB : S.Bd N) (hN : N ≤ 268435456) (nm : By) (hnl : nm.length ≤ 4611686018427387904) (a m : Int) :
  Calls Tryz.prog 55 #[.pointer (some ⟨p, 0, none⟩), encStr nm, .int .i64 a, .int .i64 m] w fun e w' => ∃ v, e = .returned (.tuple #[v, .int .i64 (S.readOk nm a m)]) ∧ AftR w w' p (S.read nm a m) o v (S.readBytes nm a m) := by
 obtain ⟨ms, mh, rv, sv, h⟩ := h
 have hfd := find_ok h nm hnl
 have HNO : Hid (∀ E : Int, E ≠ 0 → S.readOk nm a m = E → AftR w w p (S.read nm a m) o (.slice none 0 0) (S.readBytes nm a m)) := fun E hE he => by
  have e1 : S.read nm a m = S := by unfold Ds.read; rw [he, if_neg hE]
  have e2 : S.readBytes nm a m = [] := by unfold Ds.readBytes; rw [he, if_neg hE]
  rw [e1, e2]
  exact ⟨A, o, ⟨ms, mh, rv, sv, h⟩, Lab.Ext.refl _ _, Keep.refl _ _, World.ownsRow_nil _ _ _ _, by simp [Value.ownBlock]⟩
 by_cases h0 : (S.find nm).1 = 0
 ·obtain ⟨hon, hnm, hmem, hlt⟩ := Ds.find_ok h.wf h0
  have hv : findV S A nm = .pointer (some ⟨A (S.find nm).2, 0, none⟩) := by unfold findV; rw [if_pos h0]
  have HC : Hid (S.readOk nm a m = if a < 0 ∨ m < 0 ∨ ((S.th (S.find nm).2).shown.length : Int) < a ∨ ((S.th (S.find nm).2).shown.length : Int) - a < m then 54 else 0) := hide (by simp [Ds.readOk, h0])
  have HD : Hid (S.readOk nm a m = 0 → S.readBytes nm a m = ((S.th (S.find nm).2).shown.drop a.toNat).take m.toNat ∧ S.read nm a m = { S with reads := S.reads ++ [⟨nm, a.toNat, m.toNat⟩] }) := fun he => by
   unfold Ds.readBytes Ds.read
   rw [he, if_pos rfl, if_pos rfl]
   exact ⟨rfl, rfl⟩
  rw [hv, h0] at hfd
  generalize (S.find nm).2 = k at hfd HC hlt HD
  obtain ⟨rv1, sv1, ht⟩ := h.th k hlt
  obtain ⟨so, sc, rfl, hsc, hscm, hs0, hs1⟩ := ht.shown.shape
  have i2 := ht.th0.c2
  have hlen := hB.len h.wf hlt
  by_cases hbad : a < 0 ∨ m < 0 ∨ ((S.th k).shown.length : Int) < a ∨ ((S.th k).shown.length : Int) - a < m
  ·have he : S.readOk nm a m = 54 := by rw [HC.out, if_pos hbad]
   have H54 := hide (HNO.out 54 (by decide) he)
   have HE := hide he
   clear h hB ht h0 hv hmem hnm hon HC HD HNO he hs0 hs1
   generalize (S.th k).shown.length = L at i2 hlen hbad hsc
   by_cases b1 : a < 0
   ·go_enter Tryz.func55, Tryz.ntmps55
    go_wp2_with (go_at_call 67; refine hfd.mono ?_; rintro e w' ⟨rfl, rfl⟩; clear hfd)
    go_ret2
    exact ⟨_, by rw [HE.out]; rfl, H54.out⟩
   by_cases b2 : m < 0
   ·go_enter Tryz.func55, Tryz.ntmps55
    go_wp2_with (go_at_call 67; refine hfd.mono ?_; rintro e w' ⟨rfl, rfl⟩; clear hfd)
    go_ret2
    exact ⟨_, by rw [HE.out]; rfl, H54.out⟩
   by_cases b3 : (L : Int) < a
   ·go_enter Tryz.func55, Tryz.ntmps55
    go_wp2_with (go_at_call 67; refine hfd.mono ?_; rintro e w' ⟨rfl, rfl⟩; clear hfd)
    go_ret2
    exact ⟨_, by rw [HE.out]; rfl, H54.out⟩
   have b4 : (L : Int) - a < m := by omega
   clear hbad
   go_enter Tryz.func55, Tryz.ntmps55
   go_wp2_with (go_at_call 67; refine hfd.mono ?_; rintro e w' ⟨rfl, rfl⟩; clear hfd)
   go_ret2
   exact ⟨_, by rw [HE.out]; rfl, H54.out⟩
  ·obtain ⟨x, rfl⟩ : ∃ x : Nat, a = x := ⟨a.toNat, by omega⟩
   obtain ⟨y, rfl⟩ : ∃ y : Nat, m = y := ⟨m.toNat, by omega⟩
   have he : S.readOk nm x y = 0 := by rw [HC.out, if_neg hbad]
   obtain ⟨hb1, hb2⟩ := HD.out he
   simp only [Int.toNat_natCast] at hb1 hb2
   have hwfr := h.wf.read nm x y
   rw [hb2] at hwfr
   obtain ⟨to, tc, rfl, _⟩ := own_shape h.reads
   have c10 := h.c10
   obtain ⟨g, c2, w1, hrun, ho1, hk1, hg1, hlt1⟩ := run_app (P := Tryz.prog) w 78 78 164 Tryz.underlying78 Tryz.infoSpan rfl (by decide) _ S.reads.length _ h.reads (encSp ⟨nm, x, y⟩) rfl (by simp [encSp, Value.oneCell']) (by unfold maxLen; have := hB.reads; omega) (by have := hB.reads; omega)
   have hK1 := hk1 (fun k => (Value.slice to S.reads.length tc).ownBlock = some k) (fun k e => e)
   have hQ1 := hK1.heapOf h.cells h.ne_s
   have hgp : g ≠ p := by rcases hg1 with e | e; exact fun e2 => h.ne_s (by rw [← e, e2]); have := h.lt; omega
   obtain ⟨w2, hw2⟩ : ∃ w2, w2 = w1.setCell ⟨p, 10, none⟩ (.slice (some ⟨g, 0, none⟩) (S.reads.length + 1) c2) := ⟨_, rfl⟩
   have hK2 : Keep (· = p) w1 w2 := by rw [hw2]; exact (Keep.refl (· = p) w1).setCell (p := ⟨p, 10, none⟩) (fun _ => rfl) _
   have hQ2 := heap_setCell_same w1 p 10 _ _ (.slice (some ⟨g, 0, none⟩) (S.reads.length + 1) c2) hQ1
   rw [← hw2] at hQ2
   have ho2 := own_keeps ho1 hK2 (fun k e e2 => by simp only [Value.ownBlock, Option.some.injEq] at e; exact hgp (by rw [e, e2]))
   have hK02 : Keep (fun k => k = p ∨ (Value.slice to S.reads.length tc).ownBlock = some k) w w2 := (hK1.mono (fun k e _ => .inr e)).trans hK2 (fun k e _ => .inl e)
   obtain ⟨hP2, hKo⟩ := h.told ⟨nm, x, y⟩ hwfr hQ2 ho2 hK02 (fun k e => by
    simp only [Value.ownBlock, Option.some.injEq] at e
    subst e
    rcases hg1 with e | e
    ·exact .inl e.symm
    ·exact .inr e)
   have d10 : w1.cell? ⟨p, 10, none⟩ = some (.slice to S.reads.length tc) := by rw [cell_of_row w1 p 10 _ _ _ hQ1]; rfl
   have f10 : w1.frozen? ⟨p, 10, none⟩ = false := frozen_of_row w1 p 10 _ _ hQ1
   have ht2 := ht.keep hKo (fun g hg => by omega)
   have j2 := ht2.th0.c2
   obtain ⟨ao', hcut, hsl, hnil⟩ := Tryz.cutMid w2 so (S.th k).shown.length sc x y (S.th k).shown ht2.shown.sl rfl hsc (by omega) (fun e => (hs0 e).2)
   rw [← hb1] at hsl
   have hyl : (S.readBytes nm x y).length = y := by rw [hb1]; simp; omega
   have hcl := cloneR_ok ao' y (sc - x) (S.readBytes nm x y) w2 hyl hsl hnil (by omega)
   have hxy : (x : Int) + (y : Int) = ((x + y : Nat) : Int) := by omega
   have hwr : IntKind.i64.wrap ((x : Int) + (y : Int)) = ((x + y : Nat) : Int) := by rw [IntWalk.i64_in _ (by omega)]; omega
   have FIN : Hid (∀ w3 v, w3.ownsRow 0 5 1 v y (bys (S.readBytes nm x y)) → Kept [] w2 w3 → (∀ g, v.ownBlock = some g → w2.heap.size ≤ g) → AftR w w3 p (S.read nm x y) o v (S.readBytes nm x y)) := fun w3 v hv hk hn => by
    have hP3 := hP2.keep (Keep.ofNone (F := fun _ => False) hk) (fun _ _ h => h)
    refine ⟨A, o.ext w w2 1, ?_, Ext_ext _ _ _ _, (mine_k hKo).kept hk, by rw [hyl]; exact hv, fun g hg => ⟨Nat.le_trans hKo.size (hn g hg), ?_⟩⟩
    ·rw [hb2]; exact ⟨_, _, _, _, hP3⟩
    ·have := hn g hg
     have := hKo.size
     unfold Lab.ext
     rw [if_neg (by omega), if_neg (by omega)]
   have HE := hide he
   have HXY := hide hxy
   clear h hB ht h0 hv hmem hnm hon HC HD HNO he hs0 hs1 hb1 hb2 hwfr ho1 hk1 hg1 hK1 hQ1 hK2 hQ2 ho2 hK02 hP2 hKo ht2 hsl hnil hxy hscm hgp hlt1
   generalize (S.th k).shown.length = L at i2 hlen hbad j2 hcut hsc
   have b1 : ¬ ((x : Int) < 0) := by omega
   have b2 : ¬ ((y : Int) < 0) := by omega
   have b3 : ¬ ((L : Int) < x) := by omega
   have b4 : ¬ ((L : Int) - x < y) := by omega
   clear hbad
   simp only [encSp] at hrun
   go_enter Tryz.func55, Tryz.ntmps55
   go_upto_region 7 with (first
    | (go_at_call 67; refine hfd.mono ?_; rintro e w' ⟨rfl, rfl⟩; clear hfd)
    | (at_builtin; refine wpList_app_run rfl _ _ 78 78 rfl _ _ rfl rfl _ _ hrun ?_))
   try rw [← hw2]
   clear hw2 hrun d10 f10 c10 i2
   go_wp2_with (go_at_call 91; refine hcl.mono ?_; rintro e w3 ⟨v, rfl, hv3, hk3, hn3⟩; have H3 := hide (FIN.out w3 v hv3 hk3 hn3); obtain ⟨vo, vc, rfl, _⟩ := own_shape hv3; clear hv3 hk3 hn3)
   go_ret2
   exact ⟨_, by rw [HE.out]; rfl, H3.out⟩
 ·have hv : findV S A nm = .pointer none := by unfold findV; rw [if_neg h0]
  have he : S.readOk nm a m = (S.find nm).1 := by simp [Ds.readOk, h0]
  have HF := hide (HNO.out _ h0 he)
  have HE := hide he
  rw [hv] at hfd
  clear h hB HNO he
  generalize (S.find nm).1 = E at hfd h0 HE
  have e0 : (E != 0) = true := by simpa using h0
  clear h0 hv
  go_enter Tryz.func55, Tryz.ntmps55
  go_wp2_with (go_at_call 67; refine hfd.mono ?_; rintro e w' ⟨rfl, rfl⟩; clear hfd)
  go_ret2
  exact ⟨_, by rw [HE.out]; rfl, HF.out⟩
section
variable {X : Nat → Prop} {wa w w' : World} {p : Nat} {S : Ds} {N : Nat}
structure Gr (X : Nat → Prop) (wa w w' : World) (p : Nat) (S : Ds) (N : Nat) (v : Value) (xs : By) : Prop where
 ax : Ax (fun b => X b ∨ v.ownBlock = some b) w' w' p S N
 row : w'.ownsRow 0 5 1 v xs.length (bys xs)
 keep : Keep (fun b => ¬ X b) wa w'
 new : ∀ g, v.ownBlock = some g → w.heap.size ≤ g
theorem read_axr (h : Ax X wa w p S N) (hN : N ≤ 268435456) (nm : By) (hnl : nm.length ≤ 4611686018427387904) (a m : Int) : Calls Tryz.prog 55 #[.pointer (some ⟨p, 0, none⟩), encStr nm, .int .i64 a, .int .i64 m] w fun e w' => ∃ v, e = .returned (.tuple #[v, .int .i64 (S.readOk nm a m)]) ∧ Gr X wa w w' p (S.read nm a m) (N + 1) v (S.readBytes nm a m) := by
 obtain ⟨A, o, hP, ho, hw, hb⟩ := h
 refine (readR_ok hP hb hN nm hnl a m).mono ?_
 rintro e w' ⟨v, rfl, A', o', h1, h2, h3, h4, h5⟩
 have hx := aft_ax ho hw ⟨A', o', h1, h2, h3⟩ (hb.read nm a m)
 refine ⟨v, rfl, ⟨A', o', h1, fun b hb2 => ?_, Keep.refl _ _, hb.read nm a m⟩, h4, hx.old, fun g hg => (h5 g hg).1⟩
 rcases hb2 with hb2 | hb2
 ·have hbl : b < w.heap.size := Nat.lt_of_lt_of_le (ho b hb2).2 hw.size
  exact ⟨Classical.byContradiction fun hn => h2 b hbl hn (ho b hb2).1, Nat.lt_of_lt_of_le hbl h3.size⟩
 ·exact ⟨(h5 b hb2).2, (h4.lt b hb2).2⟩
theorem Gr.kept {v : Value} {xs : By} {w3 : World} (h : Gr X wa w w' p S N v xs) (hk : Kept [] w' w3) : Gr X wa w w3 p S N v xs :=
 ⟨(h.ax.kept hk).here, own_keeps h.row (Keep.ofNone (F := fun _ => False) hk) (fun _ _ h => h), h.keep.kept hk, h.new⟩
set_option maxHeartbeats 4000000 in
set_option maxRecDepth 100000 in
theorem get_r (h : Ax X wa w p S N) (name : By) (hN : N + 20 ≤ 268435456) (hm : name.length ≤ 4611686018427387900) (hp : isNm name = true) (hf : (S.find name).1 = 0) :
  Calls Tryz.prog 13 #[.pointer (some ⟨p, 0, none⟩), encStr name] w fun e w' => ∃ v, e = .returned (.tuple #[v, .nilIface]) ∧ Gr X wa w w' p (S.read name 0 (S.size name)) (N + 1) v (S.readBytes name 0 (S.size name)) := by
 have c1 := fisName_ok name w (by omega)
 rw [hp] at c1
 have hsz := size_ax h name (by omega)
 rw [hf] at hsz
 have hrd := read_axr h (by omega) name (by omega) 0 (S.size name)
 have hok : S.readOk name 0 (S.size name) = 0 := by
  simp only [Ds.readOk, Ds.size, hf, ne_eq, not_true_eq_false, if_false]
  rw [if_neg (by omega)]
 rw [hok] at hrd
 have hfa := fun v => fault_ok opGet name 0 v
 clear h hp hf hok
 generalize S.size name = z at *
 go_enter Tryz.func13, Tryz.ntmps13
 go_wp2_with (first
  | (go_at_call 53; refine c1.mono ?_; rintro e w' ⟨rfl, hww⟩; obtain rfl := hww.symm; clear c1)
  | (go_at_call 54; refine hsz.mono ?_; rintro e w' ⟨rfl, hww⟩; obtain rfl := hww.symm; clear hsz)
  | (go_at_call 55; refine hrd.mono ?_; rintro e w2 ⟨v, rfl, hx⟩; have HX := hide hx; clear hrd hx)
  | (go_at_call 51; refine (hfa _).mono ?_; rintro e w3 ⟨v3, rfl, hv3, hk3⟩; obtain rfl : v3 = .nilIface := (by rcases hv3 with hv | hv; exact hv.2; exact absurd rfl hv.1); have HK3 := hide hk3; clear hfa hv3 hk3))
 go_ret2
 exact ⟨_, rfl, HX.out.kept HK3.out⟩
end
end

section
open Go.RowKit Dsk
set_option linter.unusedVariables false
set_option linter.unusedSimpArgs false
theorem Fls.keep {F : Nat → Prop} {w w' : World} {B : Nat} {v : Value} {L : List (By × By)} {vs : List Value} (h : Fls w B v L vs) (hk : Keep F w w') (h1 : ∀ g, v.ownBlock = some g → ¬ F g) (h2 : ∀ u ∈ vs, ∀ g, u.ownBlock = some g → ¬ F g) : Fls w' B v L vs :=
 ⟨h.len, own_keeps h.row hk h1, fun i f u hf hu => (h.own i f u hf hu).keep hk (h2 u (List.mem_of_getElem? hu)), h.new, h.apart⟩
theorem Fls.base {w : World} {B B' : Nat} {v : Value} {L : List (By × By)} {vs : List Value} (h : Fls w B v L vs) (hb : B' ≤ B) : Fls w B' v L vs :=
 ⟨h.len, ownsRow_base_a h.row hb, h.own, fun u hu g hg => Nat.le_trans hb (h.new u hu g hg), h.apart⟩
theorem PD.lim {w : World} {p : Nat} {S : Ds} {A : Nat → Nat} {o : Lab} (h : PD w p S A o) {b : Nat} (hb : o b ≠ 0) : b < w.heap.size := by
 obtain ⟨_, _, _, _, hx⟩ := h
 exact hx.lim b hb
end

section
open Go.RowKit Dsk
set_option linter.unusedVariables false
set_option linter.unusedSimpArgs false
section
variable {X Y : Nat → Prop} {w w' : World} {P Q : World → Prop}
end
section
variable {X : Nat → Prop} {w : World} {p : Nat} {S : Ds} {N : Nat} {q : Nat} {T : Ds} {M : Nat}
end
end

end Go.Proofs.YtodihkdmneihiaaGreatDoor
