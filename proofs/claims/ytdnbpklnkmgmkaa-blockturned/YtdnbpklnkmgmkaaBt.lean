/-
  The walk: freightlaw11.BlockTurned. (Written by tools/bt.py.)
-/
import Derived.Test.YtdnbpklnkmgmkaaBj
import Derived.Test.YtdnbpklnkmgmkaaBg
import Derived.Test.YtdnbpklnkmgmkaaBm
import Derived.Test.YtdnbpklnkmgmkaaBu
import Derived.Test.YtdnbpklnkmgmkaaEa
namespace Go.Proofs.Ytdnbpklnkmgmkaa
open Go.RowKit
set_option linter.unusedVariables false
set_option linter.unusedSimpArgs false

theorem u8_xor_at (a d : UInt8) : bits .xor .u8 (a.toNat : Int) (d.toNat : Int) = ((a ^^^ d).toNat : Int) := by
  show IntKind.u8.wrap ((BitVec.ofInt 8 (a.toNat : Int) ^^^ BitVec.ofInt 8 (d.toNat : Int)).toNat : Int) = _
  have ha := UInt8.toNat_lt a
  have hd := UInt8.toNat_lt d
  have h : (a ^^^ d).toNat < 256 := UInt8.toNat_lt _
  rw [UInt8.toNat_xor] at h ⊢
  rw [BitVec.toNat_xor, BitVec.toNat_ofInt, BitVec.toNat_ofInt]
  rw [show ((a.toNat : Int) % ((2 ^ 8 : Nat) : Int)).toNat = a.toNat by omega, show ((d.toNat : Int) % ((2 ^ 8 : Nat) : Int)).toNat = d.toNat by omega]
  simp [IntKind.wrap, IntKind.bits, IntKind.signed]
  omega
theorem sum_lt11 (l : List UInt8) : Pure.sum l < 4294967296 := by
  unfold Pure.sum
  first | exact Pure.xor_lt32 (Pure.crc_lt (by omega) l) (by omega) | exact Pure.xor_lt32 (by omega) (Pure.crc_lt (by omega) l) | (have := Pure.crc_lt (x := 4294967295) (by omega) l; omega)
theorem bys_set11 (ys : List UInt8) (k : Nat) (c : UInt8) : (bys ys).set k (.int .u8 c.toNat) = bys (ys.set k c) := by simp [bys, List.map_set]
/-- One byte of a row of one's own is written. -/
theorem own_set11 {w : World} {base : Nat} {g n cap k : Nat} {ys : List UInt8} (h : OwnB w base (.slice (some ⟨g, 0, none⟩) n cap) ys) (hk : k < ys.length) (c : UInt8) :
    w.cell? ⟨g, k, none⟩ = some (.int .u8 (ys.getD k 0).toNat) ∧ w.frozen? ⟨g, k, none⟩ = false ∧ ∀ W, W = w.setCell ⟨g, k, none⟩ (.int .u8 c.toNat) → OwnB W base (.slice (some ⟨g, 0, none⟩) n cap) (ys.set k c) := by
  have hn : n = ys.length := by obtain ⟨_, _, e, _⟩ := h.shape; cases e; rfl
  subst hn
  unfold OwnB at h ⊢
  refine ⟨?_, h.frozenAt k, fun W hW => ?_⟩
  · rw [h.cellAt k (by rw [Nat.mul_one]; exact hk), bys_at hk]
  · subst hW
    rw [List.length_set, ← bys_set11]
    exact (h.stored k _).1
theorem Try.cutMid3 (W : World) (g L cap l q : Nat) (h2 : l + q ≤ cap) (h3 : 0 < q) :
    (Instr.slice 23 (.slice (some ⟨g, 0, none⟩) L cap) (some (.int .i64 l)) (some (.int .i64 ((l : Int) + (q : Int)))) none).run Try.prog W = .ok (.slice (some ⟨g, l, none⟩) q (cap - l)) W := by
  have h := Try.cutMid W g L cap l (l + q) (by omega) h2 (by omega)
  rw [show ((l + q : Nat) : Int) = (l : Int) + (q : Int) by push_cast; rfl, Nat.add_sub_cancel_left] at h
  exact h
theorem own_base11 {w : World} {b1 b2 : Nat} {e : TypeId} {size : Nat} {v : Value} {n : Nat} {xs : List Value} (h : w.ownsRow b1 e size v n xs) (hb : b2 ≤ b1) : w.ownsRow b2 e size v n xs := by
  refine ⟨h.1, ?_⟩
  rcases h.2 with h1 | ⟨g, cap, cur, h1, h2, h3⟩
  · exact .inl h1
  · exact .inr ⟨g, cap, cur, h1, Nat.le_trans hb h2, h3⟩
theorem tmod_nat (a b : Nat) : (a : Int).tmod (b : Int) = ((a % b : Nat) : Int) := by rw [Int.tmod_eq_emod_of_nonneg (by omega)]; rfl

theorem RB.range {w : World} {g : Nat} {a b c d : Int} (h : RB w g #[.int .i64 a, .int .i64 b, .int .i64 c, .int .i64 d]) : w.rangeAt g 0 [.int .i64 a, .int .i64 b, .int .i64 c, .int .i64 d] := fun j v hv => by
  rw [Nat.zero_add, cell_of_row _ _ _ _ _ _ h, List.getElem?_toArray]
  exact hv
theorem open_to {W : World} {ao : Option Addr} {n cap : Nat} {Y : List UInt8} (a p r s : Int) (hy : Y.length = n) (hc : n ≤ cap) (hs : Sl W ao Y) {R : List UInt8} {kk : Nat} (h : Blk.opn Y ⟨a, p, r, s⟩ = (R, kk)) :
    Calls Try.prog 18 #[.slice ao n cap, .agg #[.int .i64 a, .int .i64 p, .int .i64 r, .int .i64 s]] W fun e w' => ∃ bx xc, e = .returned (.tuple #[.slice bx R.length xc, .int .i64 kk]) ∧ OwnB w' W.heap.size (.slice bx R.length xc) R ∧ Below W.heap.size W w' := by
  have h1 := open_any ao n cap ⟨a, p, r, s⟩ Y W hy hc hs
  rw [h] at h1
  exact h1
/-- The block's number and the bytes, in a world. -/
structure Td (w W : World) (gX gP pc m : Nat) (X : Array Value) (Y : List UInt8) : Prop where
  rb : RB W gX X
  ow : OwnB W w.heap.size (.slice (some ⟨gP, 0, none⟩) m pc) Y
  kp : Kept [] w W
  ge : w.heap.size ≤ gX ∧ gX < gP
theorem Td.kept {w W W' : World} {gX gP pc m : Nat} {X : Array Value} {Y : List UInt8} (h : Td w W gX gP pc m X Y) (hk : Kept [] W W') : Td w W' gX gP pc m X Y :=
  ⟨h.rb.kept hk (by simp), h.ow.kept hk (by simp), h.kp.trans hk (by simp), h.ge⟩
theorem Td.set {w W : World} {gX gP pc m : Nat} {X : Array Value} {Y : List UInt8} (h : Td w W gX gP pc m X Y) {i : Nat} (hi : i < Y.length) (c : UInt8) (W' : World) (hW : W.setCell ⟨gP, i, none⟩ (.int .u8 c.toNat) = W') : Td w W' gX gP pc m X (Y.set i c) := by
  have hk : Kept [gP] W W' := by rw [← hW]; exact (Kept.refl [gP] W).setCell (by simp) _
  have hg := h.ge
  exact ⟨h.rb.kept hk (by simp; omega), (own_set11 h.ow hi c).2.2 _ hW.symm, h.kp.trans hk (fun g hg hlt => by simp at hg; omega), h.ge⟩
theorem RB.set {w : World} {g : Nat} {cs : Array Value} (h : RB w g cs) (j : Nat) (v : Value) (W : World) (hW : w.setCell ⟨g, j, none⟩ v = W) : RB W g (cs.setIfInBounds j v) ∧ Kept [g] w W := by
  subst hW
  exact ⟨by unfold RB; rw [heap_setCell_same _ _ _ _ _ _ h], (Kept.refl [g] w).setCell (by simp) _⟩
theorem sl_seven (w : World) : Sl (w.alloc (.cells #[.int .u8 7] 5)) (some ⟨w.heap.size, 0, none⟩) [7] := Sl.of fun i hi => by
  obtain rfl : i = 0 := by simpa using hi
  rw [cell_of_row _ _ _ _ _ _ (heap_new _ _)]
  rfl
theorem own_sls {w : World} {base : Nat} {bo : Option Addr} {n bc : Nat} {xs : List UInt8} (h : OwnB w base (.slice bo n bc) xs) : Sl w bo xs := by
  obtain ⟨ao, cap, e, h1, h2, _⟩ := h.shape
  cases e
  exact h2
theorem Td.sl {w W : World} {gX gP pc m : Nat} {X : Array Value} {Y : List UInt8} (h : Td w W gX gP pc m X Y) : Sl W (some ⟨gP, 0, none⟩) Y ∧ m ≤ pc ∧ Y.length = m := by
  obtain ⟨ao, cap, e, h1, h2, _⟩ := h.ow.shape
  cases e
  exact ⟨h2, h1, rfl⟩

set_option maxHeartbeats 8000000 in
set_option maxRecDepth 100000 in
theorem turned_yes (ao : Option Addr) (n cap s wh at_ : Nat) (d : UInt8) (xs : List UInt8) (w : World) (hi : InB w ao n cap xs) (h1 : n ≤ 65536) (h0 : 1 ≤ n) (h16 : 16 ≤ s) (h40 : s ≤ 4096) (hd : d ≠ 0) :
    Calls Try.prog 6 #[.slice ao n cap, .int .i64 s, .int .i64 wh, .int .i64 at_, .int .i64 d.toNat] w fun e w' => e = .returned (.bool true) ∧ Below w.heap.size w w' := by
  have HF := hide (fits_yes ao n cap s w h1 (by omega) (by omega))
  obtain ⟨c, hcc⟩ : ∃ c, Blk.cnt n s = c := ⟨_, rfl⟩
  have HCL : Hid (∀ k, k < c ↔ k * s < n) := fun k => by rw [← hcc]; exact Blk.cnt_lt (by omega)
  have hc0 : 0 < c := (HCL.out 0).2 (by omega)
  have HPK := hide (bpack_in ao n cap s xs w hi.len hi.le hi.sl h16 h40 h1)
  rw [hcc] at HPK
  unfold PkAns at HPK
  simp only at HPK
  have HX := hide hi.len
  obtain ⟨T, hT⟩ : ∃ T, (Blk.outs xs s c).length = T := ⟨_, rfl⟩
  have hTn : T ≤ n := by
    have := Blk.outs_len xs s c
    rw [hi.len, hT] at this
    omega
  have HBLL := hide (Blk.blks_len xs s c)
  rw [hT, HBLL.out] at HPK
  obtain ⟨k, hk⟩ : ∃ k, wh % c = k := ⟨_, rfl⟩
  have hkc : k < c := by rw [← hk]; exact Nat.mod_lt _ hc0
  have hmod : (wh : Int).tmod (c : Int) = (k : Int) := by rw [tmod_nat, hk]
  have hci : ¬ ((c : Int) = 0) := by omega
  have hcb : ((c : Int) == 0) = false := by simpa using hci
  have hni : ¬ ((n : Int) = 0) := by omega
  have hnb : ((n : Int) == 0) = false := by simpa using hni
  have hd1 : ¬ ((d.toNat : Int) < 1) := by
    have : d.toNat ≠ 0 := fun h => hd (UInt8.toNat_inj.1 h)
    omega
  have hd2 : ¬ ((255 : Int) < (d.toNat : Int)) := by have := UInt8.toNat_lt d; omega
  have hw1 : ¬ ((wh : Int) < 0) := by omega
  have hw2 : ¬ ((at_ : Int) < 0) := by omega
  have hT' := hide hT
  have HM := hide hi.max
  have HDN : Hid (d ≠ 0) := hd
  -- the block
  have hks := (HCL.out k).1 hkc
  have hpl := Blk.pc_len xs s k
  have hpne : Blk.pc xs s k ≠ [] := by intro h; rw [h] at hpl; have := HX.out; simp at hpl; omega
  have hsp := Blk.sh_pos _ hpne
  have hsl := Blk.sh_len (Blk.pc xs s k)
  have hom := Blk.outs_mono xs s (k := k + 1) (m := c) (by omega)
  rw [Blk.outs_succ, List.length_append, hT] at hom
  have hone : Blk.outs xs s c ≠ [] := by intro h; rw [h] at hT; simp at hT; omega
  have hne : Blk.blks xs s c ≠ [] := by intro h; have := HBLL.out; rw [h] at this; simp at this; omega
  have HOPN := hide (fun a => Blk.opn_pc (Blk.pc xs s k) hpne (by omega) a)
  obtain ⟨P, hP⟩ : ∃ P, Blk.pc xs s k = P := ⟨_, rfl⟩
  obtain ⟨ys, hys⟩ : ∃ ys, Blk.sh P = ys := ⟨_, rfl⟩
  obtain ⟨o, ho⟩ : ∃ o, (Blk.outs xs s k).length = o := ⟨_, rfl⟩
  obtain ⟨m, hm⟩ : ∃ m, ys.length = m := ⟨_, rfl⟩
  obtain ⟨q, hq⟩ : ∃ q, P.length = q := ⟨_, rfl⟩
  obtain ⟨u, hu⟩ : ∃ u, Pure.sum ys = u := ⟨_, rfl⟩
  have HCELL : Hid ((Blk.bk xs s k).cells = [.int .i64 (o : Nat), .int .i64 (m : Nat), .int .i64 (q : Nat), .int .i64 (u : Nat)]) := by
    show [Value.int .i64 ((Blk.outs xs s k).length : Nat), .int .i64 ((Blk.sh (Blk.pc xs s k)).length : Nat), .int .i64 ((Blk.pc xs s k).length : Nat), .int .i64 (Pure.sum (Blk.sh (Blk.pc xs s k)) : Nat)] = _
    rw [hP, hys, hm, hq, hu, ho]
  have HCUT : Hid (((Blk.outs xs s c).drop o).take m = ys) := by
    have := Blk.outs_cut xs s hkc
    rw [hP, hys, hm, ho] at this
    exact this
  rw [hP, hys, hm, hq, hu] at HOPN
  rw [hP, hys, hm, ho] at hom
  rw [hP, hys, hm] at hsp
  rw [hP, hys, hm, hq] at hsl
  rw [hP, hq, HX.out] at hpl
  have hq4 : q ≤ 4096 := by omega
  have HYM := hide hm
  have HPQ := hide hq
  have HU := hide hu
  clear hi hcc hT hP hys ho hm hq hu hpne hk hd hpl hks
  have qo : ¬ ((o : Int) < 0) := by omega
  have qm : ¬ ((m : Int) < 1) := by omega
  have wom : IntKind.i64.wrap ((o : Int) + (m : Int)) = (o : Int) + (m : Int) := by rw [IntKind.wrap_i64]; omega
  have qt : ¬ ((T : Int) < (o : Int) + (m : Int)) := by omega
  have qtd : decide ((T : Int) < (o : Int) + (m : Int)) = false := by simp; omega
  go_enter Try.func6, Try.ntmps6
  go_upto_region 6 with (first
    | (go_at_call 21; refine HF.out.mono ?_; rintro e w' ⟨rfl, hww⟩; obtain rfl := hww.symm; clear HF)
    | (go_at_call 10; refine HPK.out.mono ?_; rintro e w3 ⟨bo, bc, ko, kc, rfl, hob, hok, hb3⟩; have HOB := hide hob; have HOK := hide hok; have HB3 := hide hb3; clear hob hok hb3 HPK))
  obtain ⟨gK, hgK, hbk, hckc, hbK, _⟩ := OwnK.at0 (n := c) HOK.out hne
  obtain ⟨gO, hgO, hso, htbc, hbO, hbcm⟩ := OwnB.at0 (n := T) HOB.out hone
  subst hgK
  subst hgO
  have hrg : w3.rangeAt gK (k * 4) [.int .i64 (o : Nat), .int .i64 (m : Nat), .int .i64 (q : Nat), .int .i64 (u : Nat)] := by
    obtain ⟨b', off', e, hc'⟩ := hbk k (by rw [HBLL.out]; exact hkc)
    cases e
    rw [Blk.blks_at _ _ _ _ hkc, Nat.zero_add, HCELL.out] at hc'
    exact hc'
  have HSO : Hid (Sl w3 (some ⟨gO, o, none⟩) ys) := by
    have h := hso.cut o m (by rw [hT'.out]; exact hom)
    rw [HCUT.out, Nat.zero_add] at h
    exact h
  clear hbk hso hne hone HCUT HCELL HBLL HCL hT' HOK HOB hc0 h16 h40
  have hkcN : (k : Int) < (c : Int) := by omega
  have hcut := fun W => Try.cutMid3 W gO T bc o m (by omega) (by omega)
  go_upto_region 7 with (first
    | refine wpList_load_mid rfl 45 (.tmp 73) rfl gK (k * 4) rfl [.int .i64 (o : Nat), .int .i64 (m : Nat), .int .i64 (q : Nat), .int .i64 (u : Nat)] _ hrg Try.underlying45 rfl Try.infoBlk4 ?_
    | refine wpList_store_rowTo rfl 45 (.tmp 14) (.tmp 74) rfl rfl w3.heap.size #[.int .i64 (o : Nat), .int .i64 (m : Nat), .int .i64 (q : Nat), .int .i64 (u : Nat)] rfl rfl 45 #[.int .i64 0, .int .i64 0, .int .i64 0, .int .i64 0] (heap_new _ _) Try.infoBlk4 rfl (blk_all _ _ _ _) ?_)
  have hk7 : Kept [] w3 ((w3.alloc (.cells #[.int .i64 0, .int .i64 0, .int .i64 0, .int .i64 0] 45)).setRow w3.heap.size #[.int .i64 (o : Nat), .int .i64 (m : Nat), .int .i64 (q : Nat), .int .i64 (u : Nat)]) := kept_setRow ((Kept.refl [] w3).alloc _) (by intro h; omega) _
  have hrw : RB ((w3.alloc (.cells #[.int .i64 0, .int .i64 0, .int .i64 0, .int .i64 0] 45)).setRow w3.heap.size #[.int .i64 (o : Nat), .int .i64 (m : Nat), .int .i64 (q : Nat), .int .i64 (u : Nat)]) w3.heap.size #[.int .i64 (o : Nat), .int .i64 (m : Nat), .int .i64 (q : Nat), .int .i64 (u : Nat)] := setRow_heap _ _ _ _ _ _ (heap_new _ _)
  generalize (w3.alloc (.cells #[.int .i64 0, .int .i64 0, .int .i64 0, .int .i64 0] 45)).setRow w3.heap.size #[.int .i64 (o : Nat), .int .i64 (m : Nat), .int .i64 (q : Nat), .int .i64 (u : Nat)] = W7 at hk7 hrw ⊢
  have hgx0 : w.heap.size ≤ w3.heap.size := HB3.out.size
  have hgo : gO < w3.heap.size := by
    obtain ⟨b', off', e, hb', _⟩ := HSO.out.open (by intro h; have := HYM.out; rw [h] at this; simp at this; omega)
    cases e
    exact hb'
  obtain ⟨gX, hgX⟩ : ∃ gX, w3.heap.size = gX := ⟨_, rfl⟩
  have HGX : Hid (w.heap.size ≤ gX ∧ gO < gX ∧ gX < W7.heap.size) := ⟨by omega, by omega, by rw [← hgX]; exact (Array.getElem?_eq_some_iff.1 hrw).1⟩
  rw [hgX] at hrw ⊢
  have HK7 : Hid (Kept [] w W7) := (Kept.of_below HB3.out).trans hk7 (by simp)
  have hs7 := HSO.out.kept hk7 (by simp)
  have c0 : W7.cell? ⟨gX, 0, none⟩ = some (.int .i64 (o : Nat)) := by rw [cell_of_row _ _ _ _ _ _ hrw]; rfl
  have c1 : W7.cell? ⟨gX, 1, none⟩ = some (.int .i64 (m : Nat)) := by rw [cell_of_row _ _ _ _ _ _ hrw]; rfl
  have HRX := hide hrw
  have HB7 : Hid (w.heap.size ≤ W7.heap.size) := HK7.out.size
  obtain ⟨v9, w9, hr9, ho9, hk9⟩ := run_freshB W7 ys (some ⟨gO, o, none⟩) m (bc - o) HYM.out hs7 (fun h => by cases h) (by omega)
  obtain ⟨a9, pc, hv9, _⟩ := ho9.shape
  rw [HYM.out] at hv9
  subst hv9
  obtain ⟨gP, hgP, hsP, hmpc, hbP, _⟩ := OwnB.at0 (n := m) ho9 (by intro h; have := HYM.out; rw [h] at this; simp at this; omega)
  subst hgP
  have HOP := hide ho9
  have HK9 := hide (HK7.out.trans hk9 (by simp))
  have HRX9 : Hid (RB w9 gX #[.int .i64 (o : Nat), .int .i64 (m : Nat), .int .i64 (q : Nat), .int .i64 (u : Nat)]) := HRX.out.kept hk9 (by simp)
  have HGP : Hid (gX < gP ∧ w.heap.size ≤ gX ∧ gP < w9.heap.size) := ⟨by have := HGX.out; omega, HGX.out.1, by
    obtain ⟨b', off', e, hb', _⟩ := hsP.open (by intro h; have := HYM.out; rw [h] at this; simp at this; omega)
    cases e
    exact hb'⟩
  clear hk7 hrw hgX hgo hgx0 hs7 ho9 hk9 hsP hbP HRX HK7 HSO hrg
  go_upto_region 9 with (fail)
  have d0 := ((Kept.refl [] W7).alloc (.cells #[] 5)).cellOf c0 (by simp)
  have d1 := ((Kept.refl [] W7).alloc (.cells #[] 5)).cellOf c1 (by simp)
  clear c0 c1
  go_upto_region 10 with (refine wpList_app_run rfl (.tmp 93) (.tmp 102) 23 rfl (.slice (some ⟨W7.heap.size, 0, none⟩) 0 0) (.slice (some ⟨gO, o, none⟩) m (bc - o)) rfl rfl (.slice (some ⟨gP, 0, none⟩) m pc) w9 hr9 ?_)
  clear hr9 d0 d1 qo qm wom qt qtd hcut HGX
  have HTD : Hid (Td w w9 gX gP pc m #[.int .i64 (o : Nat), .int .i64 (m : Nat), .int .i64 (q : Nat), .int .i64 (u : Nat)] ys) := ⟨HRX9.out, own_base11 HOP.out HB7.out, HK9.out, HGP.out.2.1, HGP.out.1⟩
  obtain ⟨i, hi⟩ : ∃ i, at_ % m = i := ⟨_, rfl⟩
  have him : i < m := by rw [← hi]; exact Nat.mod_lt _ (by omega)
  have hmodA : (at_ : Int).tmod (m : Int) = (i : Int) := by rw [tmod_nat, hi]
  have hmi : ¬ ((m : Int) = 0) := by omega
  have hmb : ((m : Int) == 0) = false := by simpa using hmi
  have hmN : ¬ (m = 0) := by omega
  have himI : (i : Int) < (m : Int) := by omega
  have wd : IntKind.u8.wrap (d.toNat : Int) = (d.toNat : Int) := by have := UInt8.toNat_lt d; simp [IntKind.wrap, IntKind.bits, IntKind.signed]; omega
  have HIM : Hid (i < ys.length) := by show _ < _; rw [HYM.out]; exact him
  have hoT : o ≤ T := by omega
  clear HRX9 HOP HK9 HGP hi hmod hci hcb hni hnb hd1 hd2 hw1 hw2 hkc hkcN hckc hom htbc hbcm hbK hbO
  have e0 := (own_set11 HTD.out.ow HIM.out d).1
  have hxr := u8_xor_at ((ys).getD i 0) d
  obtain ⟨z, hz⟩ : ∃ z, ((ys).getD i 0 ^^^ d).toNat = z := ⟨_, rfl⟩
  rw [hz] at hxr
  have HZ := hide hz
  clear hz
  generalize ((ys).getD i 0).toNat = y at e0 hxr
  refine wp_region_late (fun w' => Kept [] w9 w') (fun i => i == 16) (by kernel_rfl) ?_
  have h0 : Kept [] w9 w9.drew := (Kept.refl [] w9).drew
  generalize World.drew w9 = v0 at h0 ⊢
  have e1 := h0.cellOf e0 (by simp)
  have e2 := (h0.frozen (World.block_lt_of_cell? _ _ e0) (by simp)).trans (own_set11 HTD.out.ow HIM.out d).2.1
  refine wpAnyL_free (i := 0) (v := .slice (some ⟨gP, 0, none⟩) m pc) rfl (by kernel_rfl) (by kernel_rfl) (by kernel_rfl) (fun _ _ _ h => h) (Or.inl ⟨by rfl, fun w _ => by go_simp⟩) ?_
  try simp only [List.getElem_toArray, List.getElem_cons_zero, List.getElem_cons_succ, Act.put, List.setIfInBounds_toArray, List.set_cons_zero, List.set_cons_succ]
  refine wpAnyL_free (i := 2) (v := .slice (some ⟨gP, 0, none⟩) m pc) rfl (by kernel_rfl) (by kernel_rfl) (by kernel_rfl) (fun _ _ _ h => h) (Or.inl ⟨by rfl, fun w _ => by go_simp⟩) ?_
  try simp only [List.getElem_toArray, List.getElem_cons_zero, List.getElem_cons_succ, Act.put, List.setIfInBounds_toArray, List.set_cons_zero, List.set_cons_succ]
  refine wpAnyL_free (i := 5) (v := .slice (some ⟨gP, 0, none⟩) m pc) rfl (by kernel_rfl) (by kernel_rfl) (by kernel_rfl) (fun _ _ _ h => h) (Or.inl ⟨by rfl, fun w _ => by go_simp⟩) ?_
  try simp only [List.getElem_toArray, List.getElem_cons_zero, List.getElem_cons_succ, Act.put, List.setIfInBounds_toArray, List.set_cons_zero, List.set_cons_succ]
  refine wpAnyL_free (i := 7) (v := .slice (some ⟨gP, 0, none⟩) m pc) rfl (by kernel_rfl) (by kernel_rfl) (by kernel_rfl) (fun _ _ _ h => h) (Or.inl ⟨by rfl, fun w _ => by go_simp⟩) ?_
  try simp only [List.getElem_toArray, List.getElem_cons_zero, List.getElem_cons_succ, Act.put, List.setIfInBounds_toArray, List.set_cons_zero, List.set_cons_succ]
  refine wpAnyL_free (i := 1) (v := .int .i64 at_) rfl (by kernel_rfl) (by kernel_rfl) (by kernel_rfl) (fun _ _ _ h => h) (Or.inl ⟨by rfl, fun w _ => by go_simp⟩) ?_
  try simp only [List.getElem_toArray, List.getElem_cons_zero, List.getElem_cons_succ, Act.put, List.setIfInBounds_toArray, List.set_cons_zero, List.set_cons_succ]
  refine wpAnyL_free (i := 6) (v := .int .i64 at_) rfl (by kernel_rfl) (by kernel_rfl) (by kernel_rfl) (fun _ _ _ h => h) (Or.inl ⟨by rfl, fun w _ => by go_simp⟩) ?_
  try simp only [List.getElem_toArray, List.getElem_cons_zero, List.getElem_cons_succ, Act.put, List.setIfInBounds_toArray, List.set_cons_zero, List.set_cons_succ]
  refine wpAnyL_free (i := 3) (v := .int .i64 m) rfl (by kernel_rfl) (by kernel_rfl) (by kernel_rfl) (fun _ _ _ h => h) (Or.inl ⟨by rfl, fun w _ => by go_simp⟩) ?_
  try simp only [List.getElem_toArray, List.getElem_cons_zero, List.getElem_cons_succ, Act.put, List.setIfInBounds_toArray, List.set_cons_zero, List.set_cons_succ]
  refine wpAnyL_free (i := 8) (v := .int .i64 m) rfl (by kernel_rfl) (by kernel_rfl) (by kernel_rfl) (fun _ _ _ h => h) (Or.inl ⟨by rfl, fun w _ => by go_simp⟩) ?_
  try simp only [List.getElem_toArray, List.getElem_cons_zero, List.getElem_cons_succ, Act.put, List.setIfInBounds_toArray, List.set_cons_zero, List.set_cons_succ]
  refine wpAnyL_free (i := 4) (v := .int .i64 i) rfl (by kernel_rfl) (by kernel_rfl) (by kernel_rfl) (fun _ _ _ h => h) (Or.inl ⟨by rfl, fun w _ => by have c0 := hmodA; have c1 := hmi; have c2 := hmb; have c3 := hmN; go_simp⟩) ?_
  try simp only [List.getElem_toArray, List.getElem_cons_zero, List.getElem_cons_succ, Act.put, List.setIfInBounds_toArray, List.set_cons_zero, List.set_cons_succ]
  refine wpAnyL_free (i := 9) (v := .int .i64 i) rfl (by kernel_rfl) (by kernel_rfl) (by kernel_rfl) (fun _ _ _ h => h) (Or.inl ⟨by rfl, fun w _ => by have c0 := hmodA; have c1 := hmi; have c2 := hmb; have c3 := hmN; go_simp⟩) ?_
  try simp only [List.getElem_toArray, List.getElem_cons_zero, List.getElem_cons_succ, Act.put, List.setIfInBounds_toArray, List.set_cons_zero, List.set_cons_succ]
  refine wpAnyL_free (i := 10) (v := .pointer (some ⟨gP, i, none⟩)) rfl (by kernel_rfl) (by kernel_rfl) (by kernel_rfl) (fun _ _ _ h => h) (Or.inl ⟨by rfl, fun w _ => by have c0 := him; have c1 := himI; go_simp⟩) ?_
  try simp only [List.getElem_toArray, List.getElem_cons_zero, List.getElem_cons_succ, Act.put, List.setIfInBounds_toArray, List.set_cons_zero, List.set_cons_succ]
  refine wpAnyL_take (i := 11) (v := .int .u8 y) rfl (by kernel_rfl) (by kernel_rfl) (by kernel_rfl) (by kernel_rfl) (by kernel_rfl) (fun _ _ _ h => h) (Or.inl ⟨by rfl, fun w hSw => by have c := Kept.cellOf hSw e0 (by simp); go_simp⟩) h0 ?_
  try simp only [List.getElem_toArray, List.getElem_cons_zero, List.getElem_cons_succ, Act.put, List.setIfInBounds_toArray, List.set_cons_zero, List.set_cons_succ]
  refine wpAnyL_free (i := 12) (v := .int .i64 d.toNat) rfl (by kernel_rfl) (by kernel_rfl) (by kernel_rfl) (fun _ _ _ h => h) (Or.inl ⟨by rfl, fun w _ => by go_simp⟩) ?_
  try simp only [List.getElem_toArray, List.getElem_cons_zero, List.getElem_cons_succ, Act.put, List.setIfInBounds_toArray, List.set_cons_zero, List.set_cons_succ]
  refine wpAnyL_free (i := 13) (v := .int .u8 d.toNat) rfl (by kernel_rfl) (by kernel_rfl) (by kernel_rfl) (fun _ _ _ h => h) (Or.inl ⟨by rfl, fun w _ => by have c0 := wd; go_simp⟩) ?_
  try simp only [List.getElem_toArray, List.getElem_cons_zero, List.getElem_cons_succ, Act.put, List.setIfInBounds_toArray, List.set_cons_zero, List.set_cons_succ]
  refine wpAnyL_free (i := 14) (v := .int .u8 z) rfl (by kernel_rfl) (by kernel_rfl) (by kernel_rfl) (fun _ _ _ h => h) (Or.inl ⟨by rfl, fun w _ => by have c0 := hxr; go_simp⟩) ?_
  try simp only [List.getElem_toArray, List.getElem_cons_zero, List.getElem_cons_succ, Act.put, List.setIfInBounds_toArray, List.set_cons_zero, List.set_cons_succ]
  refine wpAnyL_free (i := 15) (v := .pointer (some ⟨gP, i, none⟩)) rfl (by kernel_rfl) (by kernel_rfl) (by kernel_rfl) (fun _ _ _ h => h) (Or.inl ⟨by rfl, fun w _ => by have c0 := him; have c1 := himI; go_simp⟩) ?_
  try simp only [List.getElem_toArray, List.getElem_cons_zero, List.getElem_cons_succ, Act.put, List.setIfInBounds_toArray, List.set_cons_zero, List.set_cons_succ]
  refine wpAnyL_one (i := 16) (by kernel_rfl) rfl (fun K hK => ?_)
  rw [if_pos (by rfl)]
  go_simp
  refine hK.out _ _ (fun _ h => by cases h) ?_
  clear hK K
  try simp only [List.getElem_toArray, List.getElem_cons_zero, List.getElem_cons_succ, Act.put, List.setIfInBounds_toArray, List.set_cons_zero, List.set_cons_succ]
  refine wpAnyL_done (by kernel_rfl) ?_ _
  have HTA := hide (HTD.out.kept h0)
  obtain ⟨w10, hw10⟩ : ∃ w10, v0.setCell ⟨gP, i, none⟩ (.int .u8 z) = w10 := ⟨_, rfl⟩
  have HT10 := hide (HTA.out.set HIM.out (ys.getD i 0 ^^^ d) w10 (by rw [HZ.out]; exact hw10))
  rw [hw10]
  clear hw10 HTA HTD h0 e0 e1 e2 hxr HZ
  obtain ⟨Y, hY⟩ : ∃ Y, ys.set i (ys.getD i 0 ^^^ d) = Y := ⟨_, rfl⟩
  rw [hY] at HT10
  have HOY : Hid (Blk.opn Y ⟨(o : Nat), (m : Nat), (q : Nat), (u : Nat)⟩ = ([], 110)) := by
    show _ = _
    rw [← hY]
    exact Blk.opn_byte ys ⟨(o : Nat), (m : Nat), (q : Nat), (u : Nat)⟩ i d HIM.out HDN.out (by rw [HU.out])
  have HBK : Hid (Y.set i (Y.getD i 0 ^^^ d) = ys) := by show _ = _; rw [← hY]; exact set_back ys i d HIM.out
  have HYL : Hid (i < Y.length) := by show _ < _; rw [← hY, List.length_set]; exact HIM.out
  clear hY
  have hrg10 := HT10.out.rb.range
  have HO1 := hide (open_to (cap := pc) (o : Nat) (m : Nat) (q : Nat) (u : Nat) HT10.out.sl.2.2 HT10.out.sl.2.1 HT10.out.sl.1 HOY.out)
  go_upto_region 12 with (first
    | refine wpList_load_mid rfl 45 (.tmp 14) rfl gX 0 rfl [.int .i64 (o : Nat), .int .i64 (m : Nat), .int .i64 (q : Nat), .int .i64 (u : Nat)] _ hrg10 Try.underlying45 rfl Try.infoBlk4 ?_
    | (go_at_call 18; refine HO1.out.mono ?_; rintro e w11 ⟨b1, c1, rfl, ho1, hb1⟩; have HT11 := hide (HT10.out.kept (Kept.of_below hb1)); clear ho1 hb1 HO1 HT10 hrg10))
  clear HOY
  have e0 := (own_set11 HT11.out.ow HYL.out d).1
  have hxr := u8_xor_at ((Y).getD i 0) d
  obtain ⟨z, hz⟩ : ∃ z, ((Y).getD i 0 ^^^ d).toNat = z := ⟨_, rfl⟩
  rw [hz] at hxr
  have HZ := hide hz
  clear hz
  generalize ((Y).getD i 0).toNat = y at e0 hxr
  refine wp_region_late (fun w' => Kept [] w11 w') (fun i => i == 16) (by kernel_rfl) ?_
  have h0 : Kept [] w11 w11.drew := (Kept.refl [] w11).drew
  generalize World.drew w11 = v0 at h0 ⊢
  have e1 := h0.cellOf e0 (by simp)
  have e2 := (h0.frozen (World.block_lt_of_cell? _ _ e0) (by simp)).trans (own_set11 HT11.out.ow HYL.out d).2.1
  refine wpAnyL_free (i := 0) (v := .slice (some ⟨gP, 0, none⟩) m pc) rfl (by kernel_rfl) (by kernel_rfl) (by kernel_rfl) (fun _ _ _ h => h) (Or.inl ⟨by rfl, fun w _ => by go_simp⟩) ?_
  try simp only [List.getElem_toArray, List.getElem_cons_zero, List.getElem_cons_succ, Act.put, List.setIfInBounds_toArray, List.set_cons_zero, List.set_cons_succ]
  refine wpAnyL_free (i := 2) (v := .slice (some ⟨gP, 0, none⟩) m pc) rfl (by kernel_rfl) (by kernel_rfl) (by kernel_rfl) (fun _ _ _ h => h) (Or.inl ⟨by rfl, fun w _ => by go_simp⟩) ?_
  try simp only [List.getElem_toArray, List.getElem_cons_zero, List.getElem_cons_succ, Act.put, List.setIfInBounds_toArray, List.set_cons_zero, List.set_cons_succ]
  refine wpAnyL_free (i := 5) (v := .slice (some ⟨gP, 0, none⟩) m pc) rfl (by kernel_rfl) (by kernel_rfl) (by kernel_rfl) (fun _ _ _ h => h) (Or.inl ⟨by rfl, fun w _ => by go_simp⟩) ?_
  try simp only [List.getElem_toArray, List.getElem_cons_zero, List.getElem_cons_succ, Act.put, List.setIfInBounds_toArray, List.set_cons_zero, List.set_cons_succ]
  refine wpAnyL_free (i := 7) (v := .slice (some ⟨gP, 0, none⟩) m pc) rfl (by kernel_rfl) (by kernel_rfl) (by kernel_rfl) (fun _ _ _ h => h) (Or.inl ⟨by rfl, fun w _ => by go_simp⟩) ?_
  try simp only [List.getElem_toArray, List.getElem_cons_zero, List.getElem_cons_succ, Act.put, List.setIfInBounds_toArray, List.set_cons_zero, List.set_cons_succ]
  refine wpAnyL_free (i := 1) (v := .int .i64 at_) rfl (by kernel_rfl) (by kernel_rfl) (by kernel_rfl) (fun _ _ _ h => h) (Or.inl ⟨by rfl, fun w _ => by go_simp⟩) ?_
  try simp only [List.getElem_toArray, List.getElem_cons_zero, List.getElem_cons_succ, Act.put, List.setIfInBounds_toArray, List.set_cons_zero, List.set_cons_succ]
  refine wpAnyL_free (i := 6) (v := .int .i64 at_) rfl (by kernel_rfl) (by kernel_rfl) (by kernel_rfl) (fun _ _ _ h => h) (Or.inl ⟨by rfl, fun w _ => by go_simp⟩) ?_
  try simp only [List.getElem_toArray, List.getElem_cons_zero, List.getElem_cons_succ, Act.put, List.setIfInBounds_toArray, List.set_cons_zero, List.set_cons_succ]
  refine wpAnyL_free (i := 3) (v := .int .i64 m) rfl (by kernel_rfl) (by kernel_rfl) (by kernel_rfl) (fun _ _ _ h => h) (Or.inl ⟨by rfl, fun w _ => by go_simp⟩) ?_
  try simp only [List.getElem_toArray, List.getElem_cons_zero, List.getElem_cons_succ, Act.put, List.setIfInBounds_toArray, List.set_cons_zero, List.set_cons_succ]
  refine wpAnyL_free (i := 8) (v := .int .i64 m) rfl (by kernel_rfl) (by kernel_rfl) (by kernel_rfl) (fun _ _ _ h => h) (Or.inl ⟨by rfl, fun w _ => by go_simp⟩) ?_
  try simp only [List.getElem_toArray, List.getElem_cons_zero, List.getElem_cons_succ, Act.put, List.setIfInBounds_toArray, List.set_cons_zero, List.set_cons_succ]
  refine wpAnyL_free (i := 4) (v := .int .i64 i) rfl (by kernel_rfl) (by kernel_rfl) (by kernel_rfl) (fun _ _ _ h => h) (Or.inl ⟨by rfl, fun w _ => by have c0 := hmodA; have c1 := hmi; have c2 := hmb; have c3 := hmN; go_simp⟩) ?_
  try simp only [List.getElem_toArray, List.getElem_cons_zero, List.getElem_cons_succ, Act.put, List.setIfInBounds_toArray, List.set_cons_zero, List.set_cons_succ]
  refine wpAnyL_free (i := 9) (v := .int .i64 i) rfl (by kernel_rfl) (by kernel_rfl) (by kernel_rfl) (fun _ _ _ h => h) (Or.inl ⟨by rfl, fun w _ => by have c0 := hmodA; have c1 := hmi; have c2 := hmb; have c3 := hmN; go_simp⟩) ?_
  try simp only [List.getElem_toArray, List.getElem_cons_zero, List.getElem_cons_succ, Act.put, List.setIfInBounds_toArray, List.set_cons_zero, List.set_cons_succ]
  refine wpAnyL_free (i := 10) (v := .pointer (some ⟨gP, i, none⟩)) rfl (by kernel_rfl) (by kernel_rfl) (by kernel_rfl) (fun _ _ _ h => h) (Or.inl ⟨by rfl, fun w _ => by have c0 := him; have c1 := himI; go_simp⟩) ?_
  try simp only [List.getElem_toArray, List.getElem_cons_zero, List.getElem_cons_succ, Act.put, List.setIfInBounds_toArray, List.set_cons_zero, List.set_cons_succ]
  refine wpAnyL_take (i := 11) (v := .int .u8 y) rfl (by kernel_rfl) (by kernel_rfl) (by kernel_rfl) (by kernel_rfl) (by kernel_rfl) (fun _ _ _ h => h) (Or.inl ⟨by rfl, fun w hSw => by have c := Kept.cellOf hSw e0 (by simp); go_simp⟩) h0 ?_
  try simp only [List.getElem_toArray, List.getElem_cons_zero, List.getElem_cons_succ, Act.put, List.setIfInBounds_toArray, List.set_cons_zero, List.set_cons_succ]
  refine wpAnyL_free (i := 12) (v := .int .i64 d.toNat) rfl (by kernel_rfl) (by kernel_rfl) (by kernel_rfl) (fun _ _ _ h => h) (Or.inl ⟨by rfl, fun w _ => by go_simp⟩) ?_
  try simp only [List.getElem_toArray, List.getElem_cons_zero, List.getElem_cons_succ, Act.put, List.setIfInBounds_toArray, List.set_cons_zero, List.set_cons_succ]
  refine wpAnyL_free (i := 13) (v := .int .u8 d.toNat) rfl (by kernel_rfl) (by kernel_rfl) (by kernel_rfl) (fun _ _ _ h => h) (Or.inl ⟨by rfl, fun w _ => by have c0 := wd; go_simp⟩) ?_
  try simp only [List.getElem_toArray, List.getElem_cons_zero, List.getElem_cons_succ, Act.put, List.setIfInBounds_toArray, List.set_cons_zero, List.set_cons_succ]
  refine wpAnyL_free (i := 14) (v := .int .u8 z) rfl (by kernel_rfl) (by kernel_rfl) (by kernel_rfl) (fun _ _ _ h => h) (Or.inl ⟨by rfl, fun w _ => by have c0 := hxr; go_simp⟩) ?_
  try simp only [List.getElem_toArray, List.getElem_cons_zero, List.getElem_cons_succ, Act.put, List.setIfInBounds_toArray, List.set_cons_zero, List.set_cons_succ]
  refine wpAnyL_free (i := 15) (v := .pointer (some ⟨gP, i, none⟩)) rfl (by kernel_rfl) (by kernel_rfl) (by kernel_rfl) (fun _ _ _ h => h) (Or.inl ⟨by rfl, fun w _ => by have c0 := him; have c1 := himI; go_simp⟩) ?_
  try simp only [List.getElem_toArray, List.getElem_cons_zero, List.getElem_cons_succ, Act.put, List.setIfInBounds_toArray, List.set_cons_zero, List.set_cons_succ]
  refine wpAnyL_one (i := 16) (by kernel_rfl) rfl (fun K hK => ?_)
  rw [if_pos (by rfl)]
  go_simp
  refine hK.out _ _ (fun _ h => by cases h) ?_
  clear hK K
  try simp only [List.getElem_toArray, List.getElem_cons_zero, List.getElem_cons_succ, Act.put, List.setIfInBounds_toArray, List.set_cons_zero, List.set_cons_succ]
  refine wpAnyL_done (by kernel_rfl) ?_ _
  have HTA := hide (HT11.out.kept h0)
  obtain ⟨w12, hw12⟩ : ∃ w12, v0.setCell ⟨gP, i, none⟩ (.int .u8 z) = w12 := ⟨_, rfl⟩
  have HT12 := hide (HTA.out.set HYL.out (Y.getD i 0 ^^^ d) w12 (by rw [HZ.out]; exact hw12))
  rw [HBK.out] at HT12
  rw [hw12]
  clear hw12 HTA HT11 h0 e0 e1 e2 hxr HZ HBK HYL
  obtain ⟨r, hr⟩ : ∃ r, m - 1 = r := ⟨_, rfl⟩
  have wm1 : IntKind.i64.wrap ((m : Int) - 1) = (r : Int) := by rw [IntKind.wrap_i64]; omega
  have hcutT := fun W => Try.cutTo W (some ⟨gP, 0, none⟩) m pc r (by have := HT12.out.sl.2.1; omega)
  have HO2 : Hid (∀ W, Kept [] w12 W → Calls Try.prog 18 #[.slice (some ⟨gP, 0, none⟩) r pc, .agg #[.int .i64 (o : Nat), .int .i64 (m : Nat), .int .i64 (q : Nat), .int .i64 (u : Nat)]] W fun e w' => ∃ bx xc, e = .returned (.tuple #[.slice bx 0 xc, .int .i64 110]) ∧ OwnB w' W.heap.size (.slice bx 0 xc) [] ∧ Below W.heap.size W w') := fun W hk => by
    have hT := (HT12.out.kept hk).sl
    have hs := hT.1.cut 0 r (by rw [HYM.out]; omega)
    rw [List.drop_zero, Nat.add_zero] at hs
    exact open_to (cap := pc) (o : Nat) (m : Nat) (q : Nat) (u : Nat) (by rw [List.length_take, HYM.out]; omega) (by omega) hs (Blk.opn_len _ _ (by rw [List.length_take, HYM.out]; show ((min r m : Nat) : Int) ≠ (m : Int); omega))
  go_upto_region 13 with (fail)
  have hrg := HT12.out.rb.range
  refine wp_region_held_drew (S := fun w' => Kept [] w12 w') (by kernel_rfl) ((Kept.refl [] w12).drew) (fun h0 => ?_)
  generalize World.drew w12 = v0 at h0 ⊢
  refine wpAnyH_take (i := 0) (v := .slice (some ⟨gP, 0, none⟩) m pc) rfl (by kernel_rfl) (by kernel_rfl) (by kernel_rfl) (fun _ _ _ h => h) (Or.inl ⟨by rfl, fun w hSw => by go_simp⟩) h0 ?_
  try simp only [List.getElem_toArray, List.getElem_cons_zero, List.getElem_cons_succ, Act.put, List.setIfInBounds_toArray, List.set_cons_zero, List.set_cons_succ]
  refine wpAnyH_take (i := 1) (v := .slice (some ⟨gP, 0, none⟩) m pc) rfl (by kernel_rfl) (by kernel_rfl) (by kernel_rfl) (fun _ _ _ h => h) (Or.inl ⟨by rfl, fun w hSw => by go_simp⟩) h0 ?_
  try simp only [List.getElem_toArray, List.getElem_cons_zero, List.getElem_cons_succ, Act.put, List.setIfInBounds_toArray, List.set_cons_zero, List.set_cons_succ]
  refine wpAnyH_take (i := 2) (v := .int .i64 m) rfl (by kernel_rfl) (by kernel_rfl) (by kernel_rfl) (fun _ _ _ h => h) (Or.inl ⟨by rfl, fun w hSw => by go_simp⟩) h0 ?_
  try simp only [List.getElem_toArray, List.getElem_cons_zero, List.getElem_cons_succ, Act.put, List.setIfInBounds_toArray, List.set_cons_zero, List.set_cons_succ]
  refine wpAnyH_take (i := 3) (v := .int .i64 r) rfl (by kernel_rfl) (by kernel_rfl) (by kernel_rfl) (fun _ _ _ h => h) (Or.inl ⟨by rfl, fun w hSw => by have c0 := wm1; go_simp⟩) h0 ?_
  try simp only [List.getElem_toArray, List.getElem_cons_zero, List.getElem_cons_succ, Act.put, List.setIfInBounds_toArray, List.set_cons_zero, List.set_cons_succ]
  refine wpAnyH_take (i := 4) (v := .slice (some ⟨gP, 0, none⟩) r pc) rfl (by kernel_rfl) (by kernel_rfl) (by kernel_rfl) (fun _ _ _ h => h) (Or.inl ⟨by rfl, fun w hSw => by have c0 := hcutT w; go_simp⟩) h0 ?_
  try simp only [List.getElem_toArray, List.getElem_cons_zero, List.getElem_cons_succ, Act.put, List.setIfInBounds_toArray, List.set_cons_zero, List.set_cons_succ]
  refine wpAnyH_take (i := 5) (v := .agg #[.int .i64 (o : Nat), .int .i64 (m : Nat), .int .i64 (q : Nat), .int .i64 (u : Nat)]) rfl (by kernel_rfl) (by kernel_rfl) (by kernel_rfl) (fun _ _ _ h => h) (yieldsIf_load_mid (by rfl) _ _ rfl gX 0 rfl _ _ (fun w h j v hv => Kept.cellOf h (hrg j v hv) (by simp)) Try.underlying45 rfl Try.infoBlk4) h0 ?_
  try simp only [List.getElem_toArray, List.getElem_cons_zero, List.getElem_cons_succ, Act.put, List.setIfInBounds_toArray, List.set_cons_zero, List.set_cons_succ]
  refine wpAnyH_ready (rs := [6]) (by kernel_rfl) (by simp) (AllReadyH.cons (i := 6) rfl (fun K hK => ?_) AllReadyH.nil)
  rw [if_pos (by rfl)]
  go_simp
  refine (HO2.out _ h0).mono ?_
  rintro e w13 ⟨b2, c2, rfl, _, hb13⟩
  refine hK.out _ _ (h0.trans (Kept.of_below hb13) (by simp)) (fun h1 => ?_)
  clear hK K hb13 h0 HO2
  try simp only [List.getElem_toArray, List.getElem_cons_zero, List.getElem_cons_succ, Act.put, List.setIfInBounds_toArray, List.set_cons_zero, List.set_cons_succ]
  refine wpAnyH_take (i := 7) (v := .tuple #[.slice b2 0 c2, .int .i64 110]) rfl (by kernel_rfl) (by kernel_rfl) (by kernel_rfl) (fun _ _ _ h => h) (Or.inl ⟨by rfl, fun w hSw => by go_simp⟩) h1 ?_
  try simp only [List.getElem_toArray, List.getElem_cons_zero, List.getElem_cons_succ, Act.put, List.setIfInBounds_toArray, List.set_cons_zero, List.set_cons_succ]
  refine wpAnyH_take (i := 8) (v := .slice b2 0 c2) rfl (by kernel_rfl) (by kernel_rfl) (by kernel_rfl) (fun _ _ _ h => h) (Or.inl ⟨by rfl, fun w hSw => by go_simp⟩) h1 ?_
  try simp only [List.getElem_toArray, List.getElem_cons_zero, List.getElem_cons_succ, Act.put, List.setIfInBounds_toArray, List.set_cons_zero, List.set_cons_succ]
  refine wpAnyH_take (i := 9) (v := .int .i64 110) rfl (by kernel_rfl) (by kernel_rfl) (by kernel_rfl) (fun _ _ _ h => h) (Or.inl ⟨by rfl, fun w hSw => by go_simp⟩) h1 ?_
  try simp only [List.getElem_toArray, List.getElem_cons_zero, List.getElem_cons_succ, Act.put, List.setIfInBounds_toArray, List.set_cons_zero, List.set_cons_succ]
  refine wpAnyH_take (i := 10) (v := .slice b2 0 c2) rfl (by kernel_rfl) (by kernel_rfl) (by kernel_rfl) (fun _ _ _ h => h) (Or.inl ⟨by rfl, fun w hSw => by go_simp⟩) h1 ?_
  try simp only [List.getElem_toArray, List.getElem_cons_zero, List.getElem_cons_succ, Act.put, List.setIfInBounds_toArray, List.set_cons_zero, List.set_cons_succ]
  refine wpAnyH_take (i := 11) (v := .int .i64 110) rfl (by kernel_rfl) (by kernel_rfl) (by kernel_rfl) (fun _ _ _ h => h) (Or.inl ⟨by rfl, fun w hSw => by go_simp⟩) h1 ?_
  try simp only [List.getElem_toArray, List.getElem_cons_zero, List.getElem_cons_succ, Act.put, List.setIfInBounds_toArray, List.set_cons_zero, List.set_cons_succ]
  refine wpAnyH_done (by kernel_rfl) ?_ _
  go_upto_region 14 with (fail)
  have HT13 := hide (HT12.out.kept h1)
  clear h1 HT12 hcutT wm1 hr hrg
  obtain ⟨m1, hm1⟩ : ∃ m1, (ys ++ [(7 : UInt8)]).length = m1 := ⟨_, rfl⟩
  have HM1 := hide hm1
  have hm1' : m1 = m + 1 := by rw [← hm1, List.length_append, HYM.out]; rfl
  have HO3 : Hid (∀ W, Kept [] w13 W → ∀ ao cap, m1 ≤ cap → Sl W ao (ys ++ [7]) → Calls Try.prog 18 #[.slice ao m1 cap, .agg #[.int .i64 (o : Nat), .int .i64 (m : Nat), .int .i64 (q : Nat), .int .i64 (u : Nat)]] W fun e w' => ∃ bx xc, e = .returned (.tuple #[.slice bx 0 xc, .int .i64 110]) ∧ OwnB w' W.heap.size (.slice bx 0 xc) [] ∧ Below W.heap.size W w') := fun W hk ao cap hc hs => by
    exact open_to (cap := cap) (o : Nat) (m : Nat) (q : Nat) (u : Nat) hm1 hc hs (Blk.opn_len _ _ (by rw [hm1]; show (m1 : Int) ≠ (m : Int); omega))
  obtain ⟨uu, huu⟩ : ∃ uu, u ^^^ 1 = uu := ⟨_, rfl⟩
  have hu32 : u < 4294967296 := by rw [← HU.out]; exact sum_lt11 ys
  have hx1 : bits .xor .i64 (u : Int) 1 = (uu : Int) := by rw [← huu]; exact i64_xor_nat u 1 (by omega) (by omega)
  have HOU : Hid (Blk.opn ys ⟨(o : Nat), (m : Nat), (q : Nat), (uu : Nat)⟩ = ([], 110)) := Blk.opn_sum _ _ (by
    rw [HU.out]
    show (u : Int) ≠ (uu : Int)
    intro e
    have e2 : u ^^^ 1 = u := by rw [huu]; omega
    have e3 : u ^^^ (u ^^^ 1) = u ^^^ u := by rw [e2]
    rw [← Nat.xor_assoc, Nat.xor_self, Nat.zero_xor] at e3
    omega)
  have wo5 : IntKind.i64.wrap ((o : Int) + 5) = (o : Int) + 5 := by rw [IntKind.wrap_i64]; omega
  have q7 : ((q : Int) == (q : Int)) = true := by simp
  clear hm1 hm1' huu hu32
  have hrg := HT13.out.rb.range
  refine wp_region_held_drew (S := fun w' => Kept [] w13 w') (by kernel_rfl) ((Kept.refl [] w13).drew) (fun h0 => ?_)
  generalize World.drew w13 = v0 at h0 ⊢
  refine wpAnyH_take (i := 1) (v := .slice (some ⟨gP, 0, none⟩) m pc) rfl (by kernel_rfl) (by kernel_rfl) (by kernel_rfl) (fun _ _ _ h => h) (Or.inl ⟨by rfl, fun w hSw => by go_simp⟩) h0 ?_
  try simp only [List.getElem_toArray, List.getElem_cons_zero, List.getElem_cons_succ, Act.put, List.setIfInBounds_toArray, List.set_cons_zero, List.set_cons_succ]
  refine wpAnyH_take (i := 5) (v := .agg #[.int .i64 (o : Nat), .int .i64 (m : Nat), .int .i64 (q : Nat), .int .i64 (u : Nat)]) rfl (by kernel_rfl) (by kernel_rfl) (by kernel_rfl) (fun _ _ _ h => h) (yieldsIf_load_mid (by rfl) _ _ rfl gX 0 rfl _ _ (fun w h j v hv => Kept.cellOf h (hrg j v hv) (by simp)) Try.underlying45 rfl Try.infoBlk4) h0 ?_
  try simp only [List.getElem_toArray, List.getElem_cons_zero, List.getElem_cons_succ, Act.put, List.setIfInBounds_toArray, List.set_cons_zero, List.set_cons_succ]
  refine wpAnyH_ready (rs := [0, 3]) (by kernel_rfl) (by simp) (AllReadyH.cons (i := 0) rfl (fun K hK => ?_) (AllReadyH.cons (i := 3) rfl (fun K hK => ?_) AllReadyH.nil))
  next =>
    rw [if_pos (by rfl)]
    go_simp
    have hA : OwnB (v0.alloc (.cells #[] 5)) w13.heap.size (.slice (some ⟨v0.heap.size, 0, none⟩) 0 0) [] := World.ownsRow_made v0 #[] 0 h0.size (by decide) rfl
    have gAb : w13.heap.size ≤ v0.heap.size := h0.size
    have gAl : v0.heap.size < (v0.alloc (.cells #[] 5)).heap.size := by simp
    refine hK.out _ _ (h0.alloc (.cells #[] 5)) (fun h1 => ?_)
    clear hK K h0
    try simp only [List.getElem_toArray, List.getElem_cons_zero, List.getElem_cons_succ, Act.put, List.setIfInBounds_toArray, List.set_cons_zero, List.set_cons_succ]
    generalize World.alloc v0 _ = v1 at h1 hA gAl ⊢
    generalize v0.heap.size = gA at hA gAb gAl ⊢
    refine wpAnyH_ready (rs := [2, 3]) (by kernel_rfl) (by simp) (AllReadyH.cons (i := 2) rfl (fun K hK => ?_) (AllReadyH.cons (i := 3) rfl (fun K hK => ?_) AllReadyH.nil))
    next =>
      obtain ⟨vB, wB, hrB, hB, hkB⟩ := run_appSl v1 w13.heap.size _ [] ys hA (some ⟨gP, 0, none⟩) m pc HYM.out (HT13.out.kept h1).sl.1 (fun h => by cases h) (by simp; omega) h1.size
      rw [List.nil_append] at hB
      obtain ⟨aB, cB, eB, _⟩ := hB.shape
      rw [HYM.out] at eB
      subst eB
      rw [if_pos (by rfl)]
      refine wp_append_run (.tmp 153) (.tmp 154) 23 rfl (.slice (some ⟨gA, 0, none⟩) 0 0) (.slice (some ⟨gP, 0, none⟩) m pc) rfl rfl (.slice aB m cB) wB hrB ?_
      refine hK.out _ _ (h1.trans hkB (fun g hg hlt => by simp [Value.ownBlock] at hg; omega)) (fun h2 => ?_)
      clear hK K hrB hkB hA gAl gAb h1
      try simp only [List.getElem_toArray, List.getElem_cons_zero, List.getElem_cons_succ, Act.put, List.setIfInBounds_toArray, List.set_cons_zero, List.set_cons_succ]
      refine wpAnyH_ready (rs := [3]) (by kernel_rfl) (by simp) (AllReadyH.cons (i := 3) rfl (fun K hK => ?_) AllReadyH.nil)
      rw [if_pos (by rfl)]
      go_simp
      have h7 := sl_seven wB
      have g7l : wB.heap.size < (wB.alloc (.cells #[.int .u8 7] 5)).heap.size := by simp
      replace hB := OwnB.kept hB ((Kept.refl [] wB).alloc (.cells #[.int .u8 7] 5)) (by simp)
      refine hK.out _ _ (h2.alloc (.cells #[.int .u8 7] 5)) (fun h3 => ?_)
      clear hK K h2
      try simp only [List.getElem_toArray, List.getElem_cons_zero, List.getElem_cons_succ, Act.put, List.setIfInBounds_toArray, List.set_cons_zero, List.set_cons_succ]
      generalize World.alloc wB _ = v3 at h3 h7 g7l hB ⊢
      generalize wB.heap.size = g7 at h7 g7l ⊢
      refine wpAnyH_ready (rs := [4]) (by kernel_rfl) (by simp) (AllReadyH.cons (i := 4) rfl (fun K hK => ?_) AllReadyH.nil)
      obtain ⟨vC, wC, hrC, hC, hkC⟩ := run_appSl v3 w13.heap.size _ ys [7] hB (some ⟨g7, 0, none⟩) 1 1 rfl h7 (fun h => by cases h) (by rw [HYM.out]; omega) h3.size
      obtain ⟨aC, cC, eC, hcC, hsC, _⟩ := hC.shape
      rw [HM1.out] at eC hcC
      subst eC
      have hBf := hB.far
      rw [if_pos (by rfl)]
      refine wp_append_run (.tmp 155) (.tmp 156) 23 rfl (.slice aB m cB) (.slice (some ⟨g7, 0, none⟩) 1 1) rfl rfl (.slice aC m1 cC) wC hrC ?_
      refine hK.out _ _ (h3.trans hkC (fun g hg hlt => by have := (hBf g (by simpa using hg)).1; omega)) (fun h4 => ?_)
      clear hK K hrC hkC hB hBf h7 hC h3
      try simp only [List.getElem_toArray, List.getElem_cons_zero, List.getElem_cons_succ, Act.put, List.setIfInBounds_toArray, List.set_cons_zero, List.set_cons_succ]
      refine wpAnyH_ready (rs := [6]) (by kernel_rfl) (by simp) (AllReadyH.cons (i := 6) rfl (fun K hK => ?_) AllReadyH.nil)
      rw [if_pos (by rfl)]
      go_simp
      refine (HO3.out _ h4 aC cC hcC hsC).mono ?_
      rintro e w14 ⟨b3, c3, rfl, _, hb14⟩
      refine hK.out _ _ (h4.trans (Kept.of_below hb14) (by simp)) (fun h5 => ?_)
      clear hK K hb14 h4 hsC hcC HO3
      try simp only [List.getElem_toArray, List.getElem_cons_zero, List.getElem_cons_succ, Act.put, List.setIfInBounds_toArray, List.set_cons_zero, List.set_cons_succ]
      refine wpAnyH_take (i := 7) (v := .tuple #[.slice b3 0 c3, .int .i64 110]) rfl (by kernel_rfl) (by kernel_rfl) (by kernel_rfl) (fun _ _ _ h => h) (Or.inl ⟨by rfl, fun w hSw => by go_simp⟩) h5 ?_
      try simp only [List.getElem_toArray, List.getElem_cons_zero, List.getElem_cons_succ, Act.put, List.setIfInBounds_toArray, List.set_cons_zero, List.set_cons_succ]
      refine wpAnyH_take (i := 8) (v := .slice b3 0 c3) rfl (by kernel_rfl) (by kernel_rfl) (by kernel_rfl) (fun _ _ _ h => h) (Or.inl ⟨by rfl, fun w hSw => by go_simp⟩) h5 ?_
      try simp only [List.getElem_toArray, List.getElem_cons_zero, List.getElem_cons_succ, Act.put, List.setIfInBounds_toArray, List.set_cons_zero, List.set_cons_succ]
      refine wpAnyH_take (i := 9) (v := .int .i64 110) rfl (by kernel_rfl) (by kernel_rfl) (by kernel_rfl) (fun _ _ _ h => h) (Or.inl ⟨by rfl, fun w hSw => by go_simp⟩) h5 ?_
      try simp only [List.getElem_toArray, List.getElem_cons_zero, List.getElem_cons_succ, Act.put, List.setIfInBounds_toArray, List.set_cons_zero, List.set_cons_succ]
      refine wpAnyH_take (i := 10) (v := .slice b3 0 c3) rfl (by kernel_rfl) (by kernel_rfl) (by kernel_rfl) (fun _ _ _ h => h) (Or.inl ⟨by rfl, fun w hSw => by go_simp⟩) h5 ?_
      try simp only [List.getElem_toArray, List.getElem_cons_zero, List.getElem_cons_succ, Act.put, List.setIfInBounds_toArray, List.set_cons_zero, List.set_cons_succ]
      refine wpAnyH_take (i := 11) (v := .int .i64 110) rfl (by kernel_rfl) (by kernel_rfl) (by kernel_rfl) (fun _ _ _ h => h) (Or.inl ⟨by rfl, fun w hSw => by go_simp⟩) h5 ?_
      try simp only [List.getElem_toArray, List.getElem_cons_zero, List.getElem_cons_succ, Act.put, List.setIfInBounds_toArray, List.set_cons_zero, List.set_cons_succ]
      refine wpAnyH_done (by kernel_rfl) ?_ _
      have HT14 := hide (HT13.out.kept h5)
      clear h5 HT13
      have hrg14 := HT14.out.rb.range
      go_upto_region 16 with (first
        | refine wpList_load_mid rfl 45 (.tmp 14) rfl gX 0 rfl [.int .i64 (o : Nat), .int .i64 (m : Nat), .int .i64 (q : Nat), .int .i64 (u : Nat)] _ hrg14 Try.underlying45 rfl Try.infoBlk4 ?_
        | refine wpList_store_rowTo rfl 45 (.tmp 22) (.tmp 162) rfl rfl w14.heap.size #[.int .i64 (o : Nat), .int .i64 (m : Nat), .int .i64 (q : Nat), .int .i64 (u : Nat)] rfl rfl 45 #[.int .i64 0, .int .i64 0, .int .i64 0, .int .i64 0] (heap_new _ _) Try.infoBlk4 rfl (blk_all _ _ _ _) ?_)
      have hk15 : Kept [] w14 ((w14.alloc (.cells #[.int .i64 0, .int .i64 0, .int .i64 0, .int .i64 0] 45)).setRow w14.heap.size #[.int .i64 (o : Nat), .int .i64 (m : Nat), .int .i64 (q : Nat), .int .i64 (u : Nat)]) := kept_setRow ((Kept.refl [] w14).alloc _) (by intro h; omega) _
      have hrY : RB ((w14.alloc (.cells #[.int .i64 0, .int .i64 0, .int .i64 0, .int .i64 0] 45)).setRow w14.heap.size #[.int .i64 (o : Nat), .int .i64 (m : Nat), .int .i64 (q : Nat), .int .i64 (u : Nat)]) w14.heap.size #[.int .i64 (o : Nat), .int .i64 (m : Nat), .int .i64 (q : Nat), .int .i64 (u : Nat)] := setRow_heap _ _ _ _ _ _ (heap_new _ _)
      generalize (w14.alloc (.cells #[.int .i64 0, .int .i64 0, .int .i64 0, .int .i64 0] 45)).setRow w14.heap.size #[.int .i64 (o : Nat), .int .i64 (m : Nat), .int .i64 (q : Nat), .int .i64 (u : Nat)] = W15 at hk15 hrY ⊢
      have gYb : gX < w14.heap.size ∧ gP < w14.heap.size ∧ w.heap.size ≤ w14.heap.size := ⟨(Array.getElem?_eq_some_iff.1 HT14.out.rb).1, (by
        obtain ⟨b', off', e, hb', _⟩ := HT14.out.sl.1.open (by intro h; have := HYM.out; rw [h] at this; simp at this; omega)
        cases e
        exact hb'), HT14.out.kp.size⟩
      obtain ⟨gY, hgY⟩ : ∃ gY, w14.heap.size = gY := ⟨_, rfl⟩
      rw [hgY] at hrY gYb ⊢
      have HT15 := hide (HT14.out.kept hk15)
      clear hk15 HT14 hgY hrg14
      have HGY := hide gYb
      clear gYb
      have cx3 : W15.cell? ⟨gX, 3, none⟩ = some (.int .i64 (u : Nat)) := by rw [cell_of_row _ _ _ _ _ _ HT15.out.rb]; rfl
      have cy3 : W15.cell? ⟨gY, 3, none⟩ = some (.int .i64 (u : Nat)) := by rw [cell_of_row _ _ _ _ _ _ hrY]; rfl
      have fy3 : W15.frozen? ⟨gY, 3, none⟩ = false := frozen_of_row _ _ _ _ _ hrY
      have HRY := hide hrY
      clear hrY
      go_upto_region 17 with (fail)
      clear cx3 cy3 fy3
      obtain ⟨W16, hw16⟩ : ∃ W16, W15.setCell ⟨gY, 3, none⟩ (.int .i64 (uu : Nat)) = W16 := ⟨_, rfl⟩
      rw [hw16]
      have hs16 := HRY.out.set 3 _ W16 hw16
      have HRY16 : Hid (RB W16 gY #[.int .i64 (o : Nat), .int .i64 (m : Nat), .int .i64 (q : Nat), .int .i64 (uu : Nat)]) := hs16.1
      have HT16 : Hid (Td w W16 gX gP pc m #[.int .i64 (o : Nat), .int .i64 (m : Nat), .int .i64 (q : Nat), .int .i64 (u : Nat)] ys) := ⟨HT15.out.rb.kept hs16.2 (by have := HGY.out; simp; omega), HT15.out.ow.kept hs16.2 (by have := HGY.out; simp [Value.ownBlock]; omega), HT15.out.kp.trans hs16.2 (fun g hg hlt => by have := HGY.out; simp at hg; omega), HT15.out.ge⟩
      clear hw16 hs16 HT15 HRY
      have hrg16 := HRY16.out.range
      have HO4 := hide (open_to (cap := pc) (o : Nat) (m : Nat) (q : Nat) (uu : Nat) HT16.out.sl.2.2 HT16.out.sl.2.1 HT16.out.sl.1 HOU.out)
      go_upto_region 18 with (first
        | refine wpList_load_mid rfl 45 (.tmp 22) rfl gY 0 rfl [.int .i64 (o : Nat), .int .i64 (m : Nat), .int .i64 (q : Nat), .int .i64 (uu : Nat)] _ hrg16 Try.underlying45 rfl Try.infoBlk4 ?_
        | (go_at_call 18; refine HO4.out.mono ?_; rintro e w17 ⟨b4, c4, rfl, ho, hb⟩; have HT17 := hide (HT16.out.kept (Kept.of_below hb)); have HRY17 := hide (HRY16.out.kept (Kept.of_below hb) (by simp)); clear ho hb HO4 HT16 HRY16 hrg16))
      have hrg17 := HT17.out.rb.range
      go_upto_region 19 with (first
        | refine wpList_load_mid rfl 45 (.tmp 14) rfl gX 0 rfl [.int .i64 (o : Nat), .int .i64 (m : Nat), .int .i64 (q : Nat), .int .i64 (u : Nat)] _ hrg17 Try.underlying45 rfl Try.infoBlk4 ?_
        | refine wpList_store_rowTo rfl 45 (.tmp 22) (.tmp 173) rfl rfl gY #[.int .i64 (o : Nat), .int .i64 (m : Nat), .int .i64 (q : Nat), .int .i64 (u : Nat)] rfl rfl 45 #[.int .i64 (o : Nat), .int .i64 (m : Nat), .int .i64 (q : Nat), .int .i64 (uu : Nat)] HRY17.out Try.infoBlk4 rfl (blk_all _ _ _ _) ?_)
      have hk18 : Kept [gY] w17 (w17.setRow gY #[.int .i64 (o : Nat), .int .i64 (m : Nat), .int .i64 (q : Nat), .int .i64 (u : Nat)]) := kept_setRow (Kept.refl _ _) (by simp) _
      have HRY18 : Hid (RB (w17.setRow gY #[.int .i64 (o : Nat), .int .i64 (m : Nat), .int .i64 (q : Nat), .int .i64 (u : Nat)]) gY #[.int .i64 (o : Nat), .int .i64 (m : Nat), .int .i64 (q : Nat), .int .i64 (u : Nat)]) := setRow_heap _ _ _ _ _ _ HRY17.out
      generalize w17.setRow gY #[.int .i64 (o : Nat), .int .i64 (m : Nat), .int .i64 (q : Nat), .int .i64 (u : Nat)] = W18 at hk18 HRY18 ⊢
      have HT18 : Hid (Td w W18 gX gP pc m #[.int .i64 (o : Nat), .int .i64 (m : Nat), .int .i64 (q : Nat), .int .i64 (u : Nat)] ys) := ⟨HT17.out.rb.kept hk18 (by have := HGY.out; simp; omega), HT17.out.ow.kept hk18 (by have := HGY.out; simp [Value.ownBlock]; omega), HT17.out.kp.trans hk18 (fun g hg hlt => by have := HGY.out; simp at hg; omega), HT17.out.ge⟩
      clear hk18 HT17 HRY17 hrg17
      have cx0 : W18.cell? ⟨gX, 0, none⟩ = some (.int .i64 (o : Nat)) := by rw [cell_of_row _ _ _ _ _ _ HT18.out.rb]; rfl
      have cy0 : W18.cell? ⟨gY, 0, none⟩ = some (.int .i64 (o : Nat)) := by rw [cell_of_row _ _ _ _ _ _ HRY18.out]; rfl
      have fy0 : W18.frozen? ⟨gY, 0, none⟩ = false := frozen_of_row _ _ _ _ _ HRY18.out
      go_upto_region 20 with (fail)
      clear cx0 cy0 fy0
      obtain ⟨W19, hw19⟩ : ∃ W19, W18.setCell ⟨gY, 0, none⟩ (.int .i64 ((o : Int) + 5)) = W19 := ⟨_, rfl⟩
      rw [hw19]
      have hs19 := HRY18.out.set 0 _ W19 hw19
      have HRY19 : Hid (RB W19 gY #[.int .i64 ((o : Int) + 5), .int .i64 (m : Nat), .int .i64 (q : Nat), .int .i64 (u : Nat)]) := hs19.1
      have HT19 : Hid (Td w W19 gX gP pc m #[.int .i64 (o : Nat), .int .i64 (m : Nat), .int .i64 (q : Nat), .int .i64 (u : Nat)] ys) := ⟨HT18.out.rb.kept hs19.2 (by have := HGY.out; simp; omega), HT18.out.ow.kept hs19.2 (by have := HGY.out; simp [Value.ownBlock]; omega), HT18.out.kp.trans hs19.2 (fun g hg hlt => by have := HGY.out; simp at hg; omega), HT18.out.ge⟩
      clear hw19 hs19 HT18 HRY18
      have hrg19 := HRY19.out.range
      have HO5 := hide (open_to (cap := pc) ((o : Int) + 5) (m : Nat) (q : Nat) (u : Nat) HT19.out.sl.2.2 HT19.out.sl.2.1 HT19.out.sl.1 (HOPN.out _))
      rw [HPQ.out] at HO5
      go_upto_region 21 with (first
        | refine wpList_load_mid rfl 45 (.tmp 22) rfl gY 0 rfl [.int .i64 ((o : Int) + 5), .int .i64 (m : Nat), .int .i64 (q : Nat), .int .i64 (u : Nat)] _ hrg19 Try.underlying45 rfl Try.infoBlk4 ?_
        | (go_at_call 18; refine HO5.out.mono ?_; rintro e w20 ⟨b5, c5, rfl, ho, hb⟩; have HT20 := hide (HT19.out.kept (Kept.of_below hb)); have HR20 := hide ho; clear ho hb HO5 HT19 HRY19 hrg19))
      have hrg20 := HT20.out.rb.range
      have HO6 := hide (open_to (cap := pc) (o : Nat) (m : Nat) (q : Nat) (u : Nat) HT20.out.sl.2.2 HT20.out.sl.2.1 HT20.out.sl.1 (HOPN.out _))
      rw [HPQ.out] at HO6
      go_upto_region 22 with (first
        | refine wpList_load_mid rfl 45 (.tmp 14) rfl gX 0 rfl [.int .i64 (o : Nat), .int .i64 (m : Nat), .int .i64 (q : Nat), .int .i64 (u : Nat)] _ hrg20 Try.underlying45 rfl Try.infoBlk4 ?_
        | (go_at_call 18; refine HO6.out.mono ?_; rintro e w21 ⟨b6, c6, rfl, ho, hb⟩; have HT21 := hide (HT20.out.kept (Kept.of_below hb)); have HS5 : Hid (Sl w21 b5 P) := (own_sls HR20.out).kept (Kept.of_below hb) (by simp); have HS6 : Hid (Sl w21 b6 P) := own_sls ho; clear ho hb HO6 HT20 HR20 hrg20))
      have HBY := hide (bytes_yes b5 b6 q c5 c6 P w21 HPQ.out (by omega) HS5.out HS6.out)
      have HKN := hide known_ok
      have cx2 : ∀ W, Kept [] w21 W → W.cell? ⟨gX, 2, none⟩ = some (.int .i64 (q : Nat)) := fun W hk => hk.cellOf (by rw [cell_of_row _ _ _ _ _ _ HT21.out.rb]; rfl) (by simp)
      have HCX := hide cx2
      clear cx2 HS5 HS6
      go_wp2_with (first
        | (go_at_call 14; refine HBY.out.mono ?_; rintro e w22 ⟨rfl, hk22⟩; have HK22 := hide hk22; have cx := HCX.out w22 hk22; clear hk22 HBY HCX)
        | (go_at_call 16; refine (HKN.out _).mono ?_; rintro e w23 ⟨rfl, hk23⟩; have HK23 := hide hk23; clear hk23 HKN))
      go_ret
      exact ⟨rfl, ((HT21.out.kp.trans HK22.out (by simp)).trans HK23.out (by simp)).below (Nat.le_refl _) (by simp)⟩
    next =>
      rw [if_pos (by rfl)]
      go_simp
      have h7 := sl_seven v1
      have g7l : v1.heap.size < (v1.alloc (.cells #[.int .u8 7] 5)).heap.size := by simp
      have gne : v1.heap.size ≠ gA := by omega
      replace hA := OwnB.kept hA ((Kept.refl [] v1).alloc (.cells #[.int .u8 7] 5)) (by simp)
      refine hK.out _ _ (h1.alloc (.cells #[.int .u8 7] 5)) (fun h2 => ?_)
      clear hK K h1
      try simp only [List.getElem_toArray, List.getElem_cons_zero, List.getElem_cons_succ, Act.put, List.setIfInBounds_toArray, List.set_cons_zero, List.set_cons_succ]
      generalize World.alloc v1 _ = v2 at h2 h7 g7l hA ⊢
      generalize v1.heap.size = g7 at h7 g7l gne gAl ⊢
      refine wpAnyH_ready (rs := [2]) (by kernel_rfl) (by simp) (AllReadyH.cons (i := 2) rfl (fun K hK => ?_) AllReadyH.nil)
      obtain ⟨vB, wB, hrB, hB, hkB⟩ := run_appSl v2 w13.heap.size _ [] ys hA (some ⟨gP, 0, none⟩) m pc HYM.out (HT13.out.kept h2).sl.1 (fun h => by cases h) (by simp; omega) h2.size
      rw [List.nil_append] at hB
      obtain ⟨aB, cB, eB, _⟩ := hB.shape
      rw [HYM.out] at eB
      subst eB
      replace h7 := h7.kept hkB (by simp [Value.ownBlock]; omega)
      rw [if_pos (by rfl)]
      refine wp_append_run (.tmp 153) (.tmp 154) 23 rfl (.slice (some ⟨gA, 0, none⟩) 0 0) (.slice (some ⟨gP, 0, none⟩) m pc) rfl rfl (.slice aB m cB) wB hrB ?_
      refine hK.out _ _ (h2.trans hkB (fun g hg hlt => by simp [Value.ownBlock] at hg; omega)) (fun h3 => ?_)
      clear hK K hrB hkB hA gAl gAb gne g7l h2
      try simp only [List.getElem_toArray, List.getElem_cons_zero, List.getElem_cons_succ, Act.put, List.setIfInBounds_toArray, List.set_cons_zero, List.set_cons_succ]
      refine wpAnyH_ready (rs := [4]) (by kernel_rfl) (by simp) (AllReadyH.cons (i := 4) rfl (fun K hK => ?_) AllReadyH.nil)
      obtain ⟨vC, wC, hrC, hC, hkC⟩ := run_appSl wB w13.heap.size _ ys [7] hB (some ⟨g7, 0, none⟩) 1 1 rfl h7 (fun h => by cases h) (by rw [HYM.out]; omega) h3.size
      obtain ⟨aC, cC, eC, hcC, hsC, _⟩ := hC.shape
      rw [HM1.out] at eC hcC
      subst eC
      have hBf := hB.far
      rw [if_pos (by rfl)]
      refine wp_append_run (.tmp 155) (.tmp 156) 23 rfl (.slice aB m cB) (.slice (some ⟨g7, 0, none⟩) 1 1) rfl rfl (.slice aC m1 cC) wC hrC ?_
      refine hK.out _ _ (h3.trans hkC (fun g hg hlt => by have := (hBf g (by simpa using hg)).1; omega)) (fun h4 => ?_)
      clear hK K hrC hkC hB hBf h7 hC h3
      try simp only [List.getElem_toArray, List.getElem_cons_zero, List.getElem_cons_succ, Act.put, List.setIfInBounds_toArray, List.set_cons_zero, List.set_cons_succ]
      refine wpAnyH_ready (rs := [6]) (by kernel_rfl) (by simp) (AllReadyH.cons (i := 6) rfl (fun K hK => ?_) AllReadyH.nil)
      rw [if_pos (by rfl)]
      go_simp
      refine (HO3.out _ h4 aC cC hcC hsC).mono ?_
      rintro e w14 ⟨b3, c3, rfl, _, hb14⟩
      refine hK.out _ _ (h4.trans (Kept.of_below hb14) (by simp)) (fun h5 => ?_)
      clear hK K hb14 h4 hsC hcC HO3
      try simp only [List.getElem_toArray, List.getElem_cons_zero, List.getElem_cons_succ, Act.put, List.setIfInBounds_toArray, List.set_cons_zero, List.set_cons_succ]
      refine wpAnyH_take (i := 7) (v := .tuple #[.slice b3 0 c3, .int .i64 110]) rfl (by kernel_rfl) (by kernel_rfl) (by kernel_rfl) (fun _ _ _ h => h) (Or.inl ⟨by rfl, fun w hSw => by go_simp⟩) h5 ?_
      try simp only [List.getElem_toArray, List.getElem_cons_zero, List.getElem_cons_succ, Act.put, List.setIfInBounds_toArray, List.set_cons_zero, List.set_cons_succ]
      refine wpAnyH_take (i := 8) (v := .slice b3 0 c3) rfl (by kernel_rfl) (by kernel_rfl) (by kernel_rfl) (fun _ _ _ h => h) (Or.inl ⟨by rfl, fun w hSw => by go_simp⟩) h5 ?_
      try simp only [List.getElem_toArray, List.getElem_cons_zero, List.getElem_cons_succ, Act.put, List.setIfInBounds_toArray, List.set_cons_zero, List.set_cons_succ]
      refine wpAnyH_take (i := 9) (v := .int .i64 110) rfl (by kernel_rfl) (by kernel_rfl) (by kernel_rfl) (fun _ _ _ h => h) (Or.inl ⟨by rfl, fun w hSw => by go_simp⟩) h5 ?_
      try simp only [List.getElem_toArray, List.getElem_cons_zero, List.getElem_cons_succ, Act.put, List.setIfInBounds_toArray, List.set_cons_zero, List.set_cons_succ]
      refine wpAnyH_take (i := 10) (v := .slice b3 0 c3) rfl (by kernel_rfl) (by kernel_rfl) (by kernel_rfl) (fun _ _ _ h => h) (Or.inl ⟨by rfl, fun w hSw => by go_simp⟩) h5 ?_
      try simp only [List.getElem_toArray, List.getElem_cons_zero, List.getElem_cons_succ, Act.put, List.setIfInBounds_toArray, List.set_cons_zero, List.set_cons_succ]
      refine wpAnyH_take (i := 11) (v := .int .i64 110) rfl (by kernel_rfl) (by kernel_rfl) (by kernel_rfl) (fun _ _ _ h => h) (Or.inl ⟨by rfl, fun w hSw => by go_simp⟩) h5 ?_
      try simp only [List.getElem_toArray, List.getElem_cons_zero, List.getElem_cons_succ, Act.put, List.setIfInBounds_toArray, List.set_cons_zero, List.set_cons_succ]
      refine wpAnyH_done (by kernel_rfl) ?_ _
      have HT14 := hide (HT13.out.kept h5)
      clear h5 HT13
      have hrg14 := HT14.out.rb.range
      go_upto_region 16 with (first
        | refine wpList_load_mid rfl 45 (.tmp 14) rfl gX 0 rfl [.int .i64 (o : Nat), .int .i64 (m : Nat), .int .i64 (q : Nat), .int .i64 (u : Nat)] _ hrg14 Try.underlying45 rfl Try.infoBlk4 ?_
        | refine wpList_store_rowTo rfl 45 (.tmp 22) (.tmp 162) rfl rfl w14.heap.size #[.int .i64 (o : Nat), .int .i64 (m : Nat), .int .i64 (q : Nat), .int .i64 (u : Nat)] rfl rfl 45 #[.int .i64 0, .int .i64 0, .int .i64 0, .int .i64 0] (heap_new _ _) Try.infoBlk4 rfl (blk_all _ _ _ _) ?_)
      have hk15 : Kept [] w14 ((w14.alloc (.cells #[.int .i64 0, .int .i64 0, .int .i64 0, .int .i64 0] 45)).setRow w14.heap.size #[.int .i64 (o : Nat), .int .i64 (m : Nat), .int .i64 (q : Nat), .int .i64 (u : Nat)]) := kept_setRow ((Kept.refl [] w14).alloc _) (by intro h; omega) _
      have hrY : RB ((w14.alloc (.cells #[.int .i64 0, .int .i64 0, .int .i64 0, .int .i64 0] 45)).setRow w14.heap.size #[.int .i64 (o : Nat), .int .i64 (m : Nat), .int .i64 (q : Nat), .int .i64 (u : Nat)]) w14.heap.size #[.int .i64 (o : Nat), .int .i64 (m : Nat), .int .i64 (q : Nat), .int .i64 (u : Nat)] := setRow_heap _ _ _ _ _ _ (heap_new _ _)
      generalize (w14.alloc (.cells #[.int .i64 0, .int .i64 0, .int .i64 0, .int .i64 0] 45)).setRow w14.heap.size #[.int .i64 (o : Nat), .int .i64 (m : Nat), .int .i64 (q : Nat), .int .i64 (u : Nat)] = W15 at hk15 hrY ⊢
      have gYb : gX < w14.heap.size ∧ gP < w14.heap.size ∧ w.heap.size ≤ w14.heap.size := ⟨(Array.getElem?_eq_some_iff.1 HT14.out.rb).1, (by
        obtain ⟨b', off', e, hb', _⟩ := HT14.out.sl.1.open (by intro h; have := HYM.out; rw [h] at this; simp at this; omega)
        cases e
        exact hb'), HT14.out.kp.size⟩
      obtain ⟨gY, hgY⟩ : ∃ gY, w14.heap.size = gY := ⟨_, rfl⟩
      rw [hgY] at hrY gYb ⊢
      have HT15 := hide (HT14.out.kept hk15)
      clear hk15 HT14 hgY hrg14
      have HGY := hide gYb
      clear gYb
      have cx3 : W15.cell? ⟨gX, 3, none⟩ = some (.int .i64 (u : Nat)) := by rw [cell_of_row _ _ _ _ _ _ HT15.out.rb]; rfl
      have cy3 : W15.cell? ⟨gY, 3, none⟩ = some (.int .i64 (u : Nat)) := by rw [cell_of_row _ _ _ _ _ _ hrY]; rfl
      have fy3 : W15.frozen? ⟨gY, 3, none⟩ = false := frozen_of_row _ _ _ _ _ hrY
      have HRY := hide hrY
      clear hrY
      go_upto_region 17 with (fail)
      clear cx3 cy3 fy3
      obtain ⟨W16, hw16⟩ : ∃ W16, W15.setCell ⟨gY, 3, none⟩ (.int .i64 (uu : Nat)) = W16 := ⟨_, rfl⟩
      rw [hw16]
      have hs16 := HRY.out.set 3 _ W16 hw16
      have HRY16 : Hid (RB W16 gY #[.int .i64 (o : Nat), .int .i64 (m : Nat), .int .i64 (q : Nat), .int .i64 (uu : Nat)]) := hs16.1
      have HT16 : Hid (Td w W16 gX gP pc m #[.int .i64 (o : Nat), .int .i64 (m : Nat), .int .i64 (q : Nat), .int .i64 (u : Nat)] ys) := ⟨HT15.out.rb.kept hs16.2 (by have := HGY.out; simp; omega), HT15.out.ow.kept hs16.2 (by have := HGY.out; simp [Value.ownBlock]; omega), HT15.out.kp.trans hs16.2 (fun g hg hlt => by have := HGY.out; simp at hg; omega), HT15.out.ge⟩
      clear hw16 hs16 HT15 HRY
      have hrg16 := HRY16.out.range
      have HO4 := hide (open_to (cap := pc) (o : Nat) (m : Nat) (q : Nat) (uu : Nat) HT16.out.sl.2.2 HT16.out.sl.2.1 HT16.out.sl.1 HOU.out)
      go_upto_region 18 with (first
        | refine wpList_load_mid rfl 45 (.tmp 22) rfl gY 0 rfl [.int .i64 (o : Nat), .int .i64 (m : Nat), .int .i64 (q : Nat), .int .i64 (uu : Nat)] _ hrg16 Try.underlying45 rfl Try.infoBlk4 ?_
        | (go_at_call 18; refine HO4.out.mono ?_; rintro e w17 ⟨b4, c4, rfl, ho, hb⟩; have HT17 := hide (HT16.out.kept (Kept.of_below hb)); have HRY17 := hide (HRY16.out.kept (Kept.of_below hb) (by simp)); clear ho hb HO4 HT16 HRY16 hrg16))
      have hrg17 := HT17.out.rb.range
      go_upto_region 19 with (first
        | refine wpList_load_mid rfl 45 (.tmp 14) rfl gX 0 rfl [.int .i64 (o : Nat), .int .i64 (m : Nat), .int .i64 (q : Nat), .int .i64 (u : Nat)] _ hrg17 Try.underlying45 rfl Try.infoBlk4 ?_
        | refine wpList_store_rowTo rfl 45 (.tmp 22) (.tmp 173) rfl rfl gY #[.int .i64 (o : Nat), .int .i64 (m : Nat), .int .i64 (q : Nat), .int .i64 (u : Nat)] rfl rfl 45 #[.int .i64 (o : Nat), .int .i64 (m : Nat), .int .i64 (q : Nat), .int .i64 (uu : Nat)] HRY17.out Try.infoBlk4 rfl (blk_all _ _ _ _) ?_)
      have hk18 : Kept [gY] w17 (w17.setRow gY #[.int .i64 (o : Nat), .int .i64 (m : Nat), .int .i64 (q : Nat), .int .i64 (u : Nat)]) := kept_setRow (Kept.refl _ _) (by simp) _
      have HRY18 : Hid (RB (w17.setRow gY #[.int .i64 (o : Nat), .int .i64 (m : Nat), .int .i64 (q : Nat), .int .i64 (u : Nat)]) gY #[.int .i64 (o : Nat), .int .i64 (m : Nat), .int .i64 (q : Nat), .int .i64 (u : Nat)]) := setRow_heap _ _ _ _ _ _ HRY17.out
      generalize w17.setRow gY #[.int .i64 (o : Nat), .int .i64 (m : Nat), .int .i64 (q : Nat), .int .i64 (u : Nat)] = W18 at hk18 HRY18 ⊢
      have HT18 : Hid (Td w W18 gX gP pc m #[.int .i64 (o : Nat), .int .i64 (m : Nat), .int .i64 (q : Nat), .int .i64 (u : Nat)] ys) := ⟨HT17.out.rb.kept hk18 (by have := HGY.out; simp; omega), HT17.out.ow.kept hk18 (by have := HGY.out; simp [Value.ownBlock]; omega), HT17.out.kp.trans hk18 (fun g hg hlt => by have := HGY.out; simp at hg; omega), HT17.out.ge⟩
      clear hk18 HT17 HRY17 hrg17
      have cx0 : W18.cell? ⟨gX, 0, none⟩ = some (.int .i64 (o : Nat)) := by rw [cell_of_row _ _ _ _ _ _ HT18.out.rb]; rfl
      have cy0 : W18.cell? ⟨gY, 0, none⟩ = some (.int .i64 (o : Nat)) := by rw [cell_of_row _ _ _ _ _ _ HRY18.out]; rfl
      have fy0 : W18.frozen? ⟨gY, 0, none⟩ = false := frozen_of_row _ _ _ _ _ HRY18.out
      go_upto_region 20 with (fail)
      clear cx0 cy0 fy0
      obtain ⟨W19, hw19⟩ : ∃ W19, W18.setCell ⟨gY, 0, none⟩ (.int .i64 ((o : Int) + 5)) = W19 := ⟨_, rfl⟩
      rw [hw19]
      have hs19 := HRY18.out.set 0 _ W19 hw19
      have HRY19 : Hid (RB W19 gY #[.int .i64 ((o : Int) + 5), .int .i64 (m : Nat), .int .i64 (q : Nat), .int .i64 (u : Nat)]) := hs19.1
      have HT19 : Hid (Td w W19 gX gP pc m #[.int .i64 (o : Nat), .int .i64 (m : Nat), .int .i64 (q : Nat), .int .i64 (u : Nat)] ys) := ⟨HT18.out.rb.kept hs19.2 (by have := HGY.out; simp; omega), HT18.out.ow.kept hs19.2 (by have := HGY.out; simp [Value.ownBlock]; omega), HT18.out.kp.trans hs19.2 (fun g hg hlt => by have := HGY.out; simp at hg; omega), HT18.out.ge⟩
      clear hw19 hs19 HT18 HRY18
      have hrg19 := HRY19.out.range
      have HO5 := hide (open_to (cap := pc) ((o : Int) + 5) (m : Nat) (q : Nat) (u : Nat) HT19.out.sl.2.2 HT19.out.sl.2.1 HT19.out.sl.1 (HOPN.out _))
      rw [HPQ.out] at HO5
      go_upto_region 21 with (first
        | refine wpList_load_mid rfl 45 (.tmp 22) rfl gY 0 rfl [.int .i64 ((o : Int) + 5), .int .i64 (m : Nat), .int .i64 (q : Nat), .int .i64 (u : Nat)] _ hrg19 Try.underlying45 rfl Try.infoBlk4 ?_
        | (go_at_call 18; refine HO5.out.mono ?_; rintro e w20 ⟨b5, c5, rfl, ho, hb⟩; have HT20 := hide (HT19.out.kept (Kept.of_below hb)); have HR20 := hide ho; clear ho hb HO5 HT19 HRY19 hrg19))
      have hrg20 := HT20.out.rb.range
      have HO6 := hide (open_to (cap := pc) (o : Nat) (m : Nat) (q : Nat) (u : Nat) HT20.out.sl.2.2 HT20.out.sl.2.1 HT20.out.sl.1 (HOPN.out _))
      rw [HPQ.out] at HO6
      go_upto_region 22 with (first
        | refine wpList_load_mid rfl 45 (.tmp 14) rfl gX 0 rfl [.int .i64 (o : Nat), .int .i64 (m : Nat), .int .i64 (q : Nat), .int .i64 (u : Nat)] _ hrg20 Try.underlying45 rfl Try.infoBlk4 ?_
        | (go_at_call 18; refine HO6.out.mono ?_; rintro e w21 ⟨b6, c6, rfl, ho, hb⟩; have HT21 := hide (HT20.out.kept (Kept.of_below hb)); have HS5 : Hid (Sl w21 b5 P) := (own_sls HR20.out).kept (Kept.of_below hb) (by simp); have HS6 : Hid (Sl w21 b6 P) := own_sls ho; clear ho hb HO6 HT20 HR20 hrg20))
      have HBY := hide (bytes_yes b5 b6 q c5 c6 P w21 HPQ.out (by omega) HS5.out HS6.out)
      have HKN := hide known_ok
      have cx2 : ∀ W, Kept [] w21 W → W.cell? ⟨gX, 2, none⟩ = some (.int .i64 (q : Nat)) := fun W hk => hk.cellOf (by rw [cell_of_row _ _ _ _ _ _ HT21.out.rb]; rfl) (by simp)
      have HCX := hide cx2
      clear cx2 HS5 HS6
      go_wp2_with (first
        | (go_at_call 14; refine HBY.out.mono ?_; rintro e w22 ⟨rfl, hk22⟩; have HK22 := hide hk22; have cx := HCX.out w22 hk22; clear hk22 HBY HCX)
        | (go_at_call 16; refine (HKN.out _).mono ?_; rintro e w23 ⟨rfl, hk23⟩; have HK23 := hide hk23; clear hk23 HKN))
      go_ret
      exact ⟨rfl, ((HT21.out.kp.trans HK22.out (by simp)).trans HK23.out (by simp)).below (Nat.le_refl _) (by simp)⟩
  next =>
    rw [if_pos (by rfl)]
    go_simp
    have h7 := sl_seven v0
    have g7l : v0.heap.size < (v0.alloc (.cells #[.int .u8 7] 5)).heap.size := by simp
    refine hK.out _ _ (h0.alloc (.cells #[.int .u8 7] 5)) (fun h1 => ?_)
    clear hK K h0
    try simp only [List.getElem_toArray, List.getElem_cons_zero, List.getElem_cons_succ, Act.put, List.setIfInBounds_toArray, List.set_cons_zero, List.set_cons_succ]
    generalize World.alloc v0 _ = v1 at h1 h7 g7l ⊢
    generalize v0.heap.size = g7 at h7 g7l ⊢
    refine wpAnyH_ready (rs := [0]) (by kernel_rfl) (by simp) (AllReadyH.cons (i := 0) rfl (fun K hK => ?_) AllReadyH.nil)
    rw [if_pos (by rfl)]
    go_simp
    have hA : OwnB (v1.alloc (.cells #[] 5)) w13.heap.size (.slice (some ⟨v1.heap.size, 0, none⟩) 0 0) [] := World.ownsRow_made v1 #[] 0 h1.size (by decide) rfl
    have gAb : w13.heap.size ≤ v1.heap.size := h1.size
    have gAl : v1.heap.size < (v1.alloc (.cells #[] 5)).heap.size := by simp
    have gne : g7 ≠ v1.heap.size := by omega
    replace h7 := h7.kept ((Kept.refl [] v1).alloc (.cells #[] 5)) (by simp)
    refine hK.out _ _ (h1.alloc (.cells #[] 5)) (fun h2 => ?_)
    clear hK K h1
    try simp only [List.getElem_toArray, List.getElem_cons_zero, List.getElem_cons_succ, Act.put, List.setIfInBounds_toArray, List.set_cons_zero, List.set_cons_succ]
    generalize World.alloc v1 _ = v2 at h2 hA gAl h7 ⊢
    generalize v1.heap.size = gA at hA gAb gAl gne g7l ⊢
    refine wpAnyH_ready (rs := [2]) (by kernel_rfl) (by simp) (AllReadyH.cons (i := 2) rfl (fun K hK => ?_) AllReadyH.nil)
    obtain ⟨vB, wB, hrB, hB, hkB⟩ := run_appSl v2 w13.heap.size _ [] ys hA (some ⟨gP, 0, none⟩) m pc HYM.out (HT13.out.kept h2).sl.1 (fun h => by cases h) (by simp; omega) h2.size
    rw [List.nil_append] at hB
    obtain ⟨aB, cB, eB, _⟩ := hB.shape
    rw [HYM.out] at eB
    subst eB
    replace h7 := h7.kept hkB (by simp [Value.ownBlock]; omega)
    rw [if_pos (by rfl)]
    refine wp_append_run (.tmp 153) (.tmp 154) 23 rfl (.slice (some ⟨gA, 0, none⟩) 0 0) (.slice (some ⟨gP, 0, none⟩) m pc) rfl rfl (.slice aB m cB) wB hrB ?_
    refine hK.out _ _ (h2.trans hkB (fun g hg hlt => by simp [Value.ownBlock] at hg; omega)) (fun h3 => ?_)
    clear hK K hrB hkB hA gAl gAb gne g7l h2
    try simp only [List.getElem_toArray, List.getElem_cons_zero, List.getElem_cons_succ, Act.put, List.setIfInBounds_toArray, List.set_cons_zero, List.set_cons_succ]
    refine wpAnyH_ready (rs := [4]) (by kernel_rfl) (by simp) (AllReadyH.cons (i := 4) rfl (fun K hK => ?_) AllReadyH.nil)
    obtain ⟨vC, wC, hrC, hC, hkC⟩ := run_appSl wB w13.heap.size _ ys [7] hB (some ⟨g7, 0, none⟩) 1 1 rfl h7 (fun h => by cases h) (by rw [HYM.out]; omega) h3.size
    obtain ⟨aC, cC, eC, hcC, hsC, _⟩ := hC.shape
    rw [HM1.out] at eC hcC
    subst eC
    have hBf := hB.far
    rw [if_pos (by rfl)]
    refine wp_append_run (.tmp 155) (.tmp 156) 23 rfl (.slice aB m cB) (.slice (some ⟨g7, 0, none⟩) 1 1) rfl rfl (.slice aC m1 cC) wC hrC ?_
    refine hK.out _ _ (h3.trans hkC (fun g hg hlt => by have := (hBf g (by simpa using hg)).1; omega)) (fun h4 => ?_)
    clear hK K hrC hkC hB hBf h7 hC h3
    try simp only [List.getElem_toArray, List.getElem_cons_zero, List.getElem_cons_succ, Act.put, List.setIfInBounds_toArray, List.set_cons_zero, List.set_cons_succ]
    refine wpAnyH_ready (rs := [6]) (by kernel_rfl) (by simp) (AllReadyH.cons (i := 6) rfl (fun K hK => ?_) AllReadyH.nil)
    rw [if_pos (by rfl)]
    go_simp
    refine (HO3.out _ h4 aC cC hcC hsC).mono ?_
    rintro e w14 ⟨b3, c3, rfl, _, hb14⟩
    refine hK.out _ _ (h4.trans (Kept.of_below hb14) (by simp)) (fun h5 => ?_)
    clear hK K hb14 h4 hsC hcC HO3
    try simp only [List.getElem_toArray, List.getElem_cons_zero, List.getElem_cons_succ, Act.put, List.setIfInBounds_toArray, List.set_cons_zero, List.set_cons_succ]
    refine wpAnyH_take (i := 7) (v := .tuple #[.slice b3 0 c3, .int .i64 110]) rfl (by kernel_rfl) (by kernel_rfl) (by kernel_rfl) (fun _ _ _ h => h) (Or.inl ⟨by rfl, fun w hSw => by go_simp⟩) h5 ?_
    try simp only [List.getElem_toArray, List.getElem_cons_zero, List.getElem_cons_succ, Act.put, List.setIfInBounds_toArray, List.set_cons_zero, List.set_cons_succ]
    refine wpAnyH_take (i := 8) (v := .slice b3 0 c3) rfl (by kernel_rfl) (by kernel_rfl) (by kernel_rfl) (fun _ _ _ h => h) (Or.inl ⟨by rfl, fun w hSw => by go_simp⟩) h5 ?_
    try simp only [List.getElem_toArray, List.getElem_cons_zero, List.getElem_cons_succ, Act.put, List.setIfInBounds_toArray, List.set_cons_zero, List.set_cons_succ]
    refine wpAnyH_take (i := 9) (v := .int .i64 110) rfl (by kernel_rfl) (by kernel_rfl) (by kernel_rfl) (fun _ _ _ h => h) (Or.inl ⟨by rfl, fun w hSw => by go_simp⟩) h5 ?_
    try simp only [List.getElem_toArray, List.getElem_cons_zero, List.getElem_cons_succ, Act.put, List.setIfInBounds_toArray, List.set_cons_zero, List.set_cons_succ]
    refine wpAnyH_take (i := 10) (v := .slice b3 0 c3) rfl (by kernel_rfl) (by kernel_rfl) (by kernel_rfl) (fun _ _ _ h => h) (Or.inl ⟨by rfl, fun w hSw => by go_simp⟩) h5 ?_
    try simp only [List.getElem_toArray, List.getElem_cons_zero, List.getElem_cons_succ, Act.put, List.setIfInBounds_toArray, List.set_cons_zero, List.set_cons_succ]
    refine wpAnyH_take (i := 11) (v := .int .i64 110) rfl (by kernel_rfl) (by kernel_rfl) (by kernel_rfl) (fun _ _ _ h => h) (Or.inl ⟨by rfl, fun w hSw => by go_simp⟩) h5 ?_
    try simp only [List.getElem_toArray, List.getElem_cons_zero, List.getElem_cons_succ, Act.put, List.setIfInBounds_toArray, List.set_cons_zero, List.set_cons_succ]
    refine wpAnyH_done (by kernel_rfl) ?_ _
    have HT14 := hide (HT13.out.kept h5)
    clear h5 HT13
    have hrg14 := HT14.out.rb.range
    go_upto_region 16 with (first
      | refine wpList_load_mid rfl 45 (.tmp 14) rfl gX 0 rfl [.int .i64 (o : Nat), .int .i64 (m : Nat), .int .i64 (q : Nat), .int .i64 (u : Nat)] _ hrg14 Try.underlying45 rfl Try.infoBlk4 ?_
      | refine wpList_store_rowTo rfl 45 (.tmp 22) (.tmp 162) rfl rfl w14.heap.size #[.int .i64 (o : Nat), .int .i64 (m : Nat), .int .i64 (q : Nat), .int .i64 (u : Nat)] rfl rfl 45 #[.int .i64 0, .int .i64 0, .int .i64 0, .int .i64 0] (heap_new _ _) Try.infoBlk4 rfl (blk_all _ _ _ _) ?_)
    have hk15 : Kept [] w14 ((w14.alloc (.cells #[.int .i64 0, .int .i64 0, .int .i64 0, .int .i64 0] 45)).setRow w14.heap.size #[.int .i64 (o : Nat), .int .i64 (m : Nat), .int .i64 (q : Nat), .int .i64 (u : Nat)]) := kept_setRow ((Kept.refl [] w14).alloc _) (by intro h; omega) _
    have hrY : RB ((w14.alloc (.cells #[.int .i64 0, .int .i64 0, .int .i64 0, .int .i64 0] 45)).setRow w14.heap.size #[.int .i64 (o : Nat), .int .i64 (m : Nat), .int .i64 (q : Nat), .int .i64 (u : Nat)]) w14.heap.size #[.int .i64 (o : Nat), .int .i64 (m : Nat), .int .i64 (q : Nat), .int .i64 (u : Nat)] := setRow_heap _ _ _ _ _ _ (heap_new _ _)
    generalize (w14.alloc (.cells #[.int .i64 0, .int .i64 0, .int .i64 0, .int .i64 0] 45)).setRow w14.heap.size #[.int .i64 (o : Nat), .int .i64 (m : Nat), .int .i64 (q : Nat), .int .i64 (u : Nat)] = W15 at hk15 hrY ⊢
    have gYb : gX < w14.heap.size ∧ gP < w14.heap.size ∧ w.heap.size ≤ w14.heap.size := ⟨(Array.getElem?_eq_some_iff.1 HT14.out.rb).1, (by
      obtain ⟨b', off', e, hb', _⟩ := HT14.out.sl.1.open (by intro h; have := HYM.out; rw [h] at this; simp at this; omega)
      cases e
      exact hb'), HT14.out.kp.size⟩
    obtain ⟨gY, hgY⟩ : ∃ gY, w14.heap.size = gY := ⟨_, rfl⟩
    rw [hgY] at hrY gYb ⊢
    have HT15 := hide (HT14.out.kept hk15)
    clear hk15 HT14 hgY hrg14
    have HGY := hide gYb
    clear gYb
    have cx3 : W15.cell? ⟨gX, 3, none⟩ = some (.int .i64 (u : Nat)) := by rw [cell_of_row _ _ _ _ _ _ HT15.out.rb]; rfl
    have cy3 : W15.cell? ⟨gY, 3, none⟩ = some (.int .i64 (u : Nat)) := by rw [cell_of_row _ _ _ _ _ _ hrY]; rfl
    have fy3 : W15.frozen? ⟨gY, 3, none⟩ = false := frozen_of_row _ _ _ _ _ hrY
    have HRY := hide hrY
    clear hrY
    go_upto_region 17 with (fail)
    clear cx3 cy3 fy3
    obtain ⟨W16, hw16⟩ : ∃ W16, W15.setCell ⟨gY, 3, none⟩ (.int .i64 (uu : Nat)) = W16 := ⟨_, rfl⟩
    rw [hw16]
    have hs16 := HRY.out.set 3 _ W16 hw16
    have HRY16 : Hid (RB W16 gY #[.int .i64 (o : Nat), .int .i64 (m : Nat), .int .i64 (q : Nat), .int .i64 (uu : Nat)]) := hs16.1
    have HT16 : Hid (Td w W16 gX gP pc m #[.int .i64 (o : Nat), .int .i64 (m : Nat), .int .i64 (q : Nat), .int .i64 (u : Nat)] ys) := ⟨HT15.out.rb.kept hs16.2 (by have := HGY.out; simp; omega), HT15.out.ow.kept hs16.2 (by have := HGY.out; simp [Value.ownBlock]; omega), HT15.out.kp.trans hs16.2 (fun g hg hlt => by have := HGY.out; simp at hg; omega), HT15.out.ge⟩
    clear hw16 hs16 HT15 HRY
    have hrg16 := HRY16.out.range
    have HO4 := hide (open_to (cap := pc) (o : Nat) (m : Nat) (q : Nat) (uu : Nat) HT16.out.sl.2.2 HT16.out.sl.2.1 HT16.out.sl.1 HOU.out)
    go_upto_region 18 with (first
      | refine wpList_load_mid rfl 45 (.tmp 22) rfl gY 0 rfl [.int .i64 (o : Nat), .int .i64 (m : Nat), .int .i64 (q : Nat), .int .i64 (uu : Nat)] _ hrg16 Try.underlying45 rfl Try.infoBlk4 ?_
      | (go_at_call 18; refine HO4.out.mono ?_; rintro e w17 ⟨b4, c4, rfl, ho, hb⟩; have HT17 := hide (HT16.out.kept (Kept.of_below hb)); have HRY17 := hide (HRY16.out.kept (Kept.of_below hb) (by simp)); clear ho hb HO4 HT16 HRY16 hrg16))
    have hrg17 := HT17.out.rb.range
    go_upto_region 19 with (first
      | refine wpList_load_mid rfl 45 (.tmp 14) rfl gX 0 rfl [.int .i64 (o : Nat), .int .i64 (m : Nat), .int .i64 (q : Nat), .int .i64 (u : Nat)] _ hrg17 Try.underlying45 rfl Try.infoBlk4 ?_
      | refine wpList_store_rowTo rfl 45 (.tmp 22) (.tmp 173) rfl rfl gY #[.int .i64 (o : Nat), .int .i64 (m : Nat), .int .i64 (q : Nat), .int .i64 (u : Nat)] rfl rfl 45 #[.int .i64 (o : Nat), .int .i64 (m : Nat), .int .i64 (q : Nat), .int .i64 (uu : Nat)] HRY17.out Try.infoBlk4 rfl (blk_all _ _ _ _) ?_)
    have hk18 : Kept [gY] w17 (w17.setRow gY #[.int .i64 (o : Nat), .int .i64 (m : Nat), .int .i64 (q : Nat), .int .i64 (u : Nat)]) := kept_setRow (Kept.refl _ _) (by simp) _
    have HRY18 : Hid (RB (w17.setRow gY #[.int .i64 (o : Nat), .int .i64 (m : Nat), .int .i64 (q : Nat), .int .i64 (u : Nat)]) gY #[.int .i64 (o : Nat), .int .i64 (m : Nat), .int .i64 (q : Nat), .int .i64 (u : Nat)]) := setRow_heap _ _ _ _ _ _ HRY17.out
    generalize w17.setRow gY #[.int .i64 (o : Nat), .int .i64 (m : Nat), .int .i64 (q : Nat), .int .i64 (u : Nat)] = W18 at hk18 HRY18 ⊢
    have HT18 : Hid (Td w W18 gX gP pc m #[.int .i64 (o : Nat), .int .i64 (m : Nat), .int .i64 (q : Nat), .int .i64 (u : Nat)] ys) := ⟨HT17.out.rb.kept hk18 (by have := HGY.out; simp; omega), HT17.out.ow.kept hk18 (by have := HGY.out; simp [Value.ownBlock]; omega), HT17.out.kp.trans hk18 (fun g hg hlt => by have := HGY.out; simp at hg; omega), HT17.out.ge⟩
    clear hk18 HT17 HRY17 hrg17
    have cx0 : W18.cell? ⟨gX, 0, none⟩ = some (.int .i64 (o : Nat)) := by rw [cell_of_row _ _ _ _ _ _ HT18.out.rb]; rfl
    have cy0 : W18.cell? ⟨gY, 0, none⟩ = some (.int .i64 (o : Nat)) := by rw [cell_of_row _ _ _ _ _ _ HRY18.out]; rfl
    have fy0 : W18.frozen? ⟨gY, 0, none⟩ = false := frozen_of_row _ _ _ _ _ HRY18.out
    go_upto_region 20 with (fail)
    clear cx0 cy0 fy0
    obtain ⟨W19, hw19⟩ : ∃ W19, W18.setCell ⟨gY, 0, none⟩ (.int .i64 ((o : Int) + 5)) = W19 := ⟨_, rfl⟩
    rw [hw19]
    have hs19 := HRY18.out.set 0 _ W19 hw19
    have HRY19 : Hid (RB W19 gY #[.int .i64 ((o : Int) + 5), .int .i64 (m : Nat), .int .i64 (q : Nat), .int .i64 (u : Nat)]) := hs19.1
    have HT19 : Hid (Td w W19 gX gP pc m #[.int .i64 (o : Nat), .int .i64 (m : Nat), .int .i64 (q : Nat), .int .i64 (u : Nat)] ys) := ⟨HT18.out.rb.kept hs19.2 (by have := HGY.out; simp; omega), HT18.out.ow.kept hs19.2 (by have := HGY.out; simp [Value.ownBlock]; omega), HT18.out.kp.trans hs19.2 (fun g hg hlt => by have := HGY.out; simp at hg; omega), HT18.out.ge⟩
    clear hw19 hs19 HT18 HRY18
    have hrg19 := HRY19.out.range
    have HO5 := hide (open_to (cap := pc) ((o : Int) + 5) (m : Nat) (q : Nat) (u : Nat) HT19.out.sl.2.2 HT19.out.sl.2.1 HT19.out.sl.1 (HOPN.out _))
    rw [HPQ.out] at HO5
    go_upto_region 21 with (first
      | refine wpList_load_mid rfl 45 (.tmp 22) rfl gY 0 rfl [.int .i64 ((o : Int) + 5), .int .i64 (m : Nat), .int .i64 (q : Nat), .int .i64 (u : Nat)] _ hrg19 Try.underlying45 rfl Try.infoBlk4 ?_
      | (go_at_call 18; refine HO5.out.mono ?_; rintro e w20 ⟨b5, c5, rfl, ho, hb⟩; have HT20 := hide (HT19.out.kept (Kept.of_below hb)); have HR20 := hide ho; clear ho hb HO5 HT19 HRY19 hrg19))
    have hrg20 := HT20.out.rb.range
    have HO6 := hide (open_to (cap := pc) (o : Nat) (m : Nat) (q : Nat) (u : Nat) HT20.out.sl.2.2 HT20.out.sl.2.1 HT20.out.sl.1 (HOPN.out _))
    rw [HPQ.out] at HO6
    go_upto_region 22 with (first
      | refine wpList_load_mid rfl 45 (.tmp 14) rfl gX 0 rfl [.int .i64 (o : Nat), .int .i64 (m : Nat), .int .i64 (q : Nat), .int .i64 (u : Nat)] _ hrg20 Try.underlying45 rfl Try.infoBlk4 ?_
      | (go_at_call 18; refine HO6.out.mono ?_; rintro e w21 ⟨b6, c6, rfl, ho, hb⟩; have HT21 := hide (HT20.out.kept (Kept.of_below hb)); have HS5 : Hid (Sl w21 b5 P) := (own_sls HR20.out).kept (Kept.of_below hb) (by simp); have HS6 : Hid (Sl w21 b6 P) := own_sls ho; clear ho hb HO6 HT20 HR20 hrg20))
    have HBY := hide (bytes_yes b5 b6 q c5 c6 P w21 HPQ.out (by omega) HS5.out HS6.out)
    have HKN := hide known_ok
    have cx2 : ∀ W, Kept [] w21 W → W.cell? ⟨gX, 2, none⟩ = some (.int .i64 (q : Nat)) := fun W hk => hk.cellOf (by rw [cell_of_row _ _ _ _ _ _ HT21.out.rb]; rfl) (by simp)
    have HCX := hide cx2
    clear cx2 HS5 HS6
    go_wp2_with (first
      | (go_at_call 14; refine HBY.out.mono ?_; rintro e w22 ⟨rfl, hk22⟩; have HK22 := hide hk22; have cx := HCX.out w22 hk22; clear hk22 HBY HCX)
      | (go_at_call 16; refine (HKN.out _).mono ?_; rintro e w23 ⟨rfl, hk23⟩; have HK23 := hide hk23; clear hk23 HKN))
    go_ret
    exact ⟨rfl, ((HT21.out.kp.trans HK22.out (by simp)).trans HK23.out (by simp)).below (Nat.le_refl _) (by simp)⟩


end Go.Proofs.Ytdnbpklnkmgmkaa
