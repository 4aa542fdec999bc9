/-
  Contract: freightref4.Pack. (Written by tools/vj.py.)
-/
import Derived.Test.YtdnbpklnkmgmkaaVi
namespace Go.Proofs.Ytdnbpklnkmgmkaa
open Go.RowKit
set_option linter.unusedVariables false
set_option linter.unusedSimpArgs false

namespace Prs
/-- The groups so far and the one that is being filled, also while it has no item. -/
def outF (pre : List UInt8) (cur : List Item) : List UInt8 := pre ++ UInt8.ofNat (flagOf cur) :: flat cur
theorem outF_of {pre : List UInt8} {cur : List Item} (h : cur ≠ []) : outF pre cur = outOf pre cur := by simp [outF, outOf, h]
theorem outF_lit (pre : List UInt8) (cur : List Item) (x : UInt8) : outF pre cur ++ [x] = outF pre (cur ++ [.lit x]) := by
  have : flagOf (cur ++ [.lit x]) = flagOf cur := by rw [flagOf_append]; simp [bitOf]
  simp [outF, this, flat_append, flat, bodyOf]
theorem outF_mat (pre : List UInt8) (cur : List Item) (d l : Nat) (h8 : cur.length < 8) (y : UInt8) (hy : y.toNat = flagOf cur + 2 ^ cur.length) : (outF pre cur ++ [UInt8.ofNat (code d l / 256), UInt8.ofNat (code d l % 256)]).set pre.length y = outF pre (cur ++ [.mat d l]) := by
  have e : flagOf (cur ++ [.mat d l]) = flagOf cur + 2 ^ cur.length := by rw [flagOf_append]; simp [bitOf]
  have hy2 : y = UInt8.ofNat (flagOf (cur ++ [.mat d l])) := by
    apply UInt8.toNat_inj.1
    rw [UInt8.toNat_ofNat', e, ← hy, Nat.mod_eq_of_lt (UInt8.toNat_lt y)]
  rw [show outF pre cur ++ [UInt8.ofNat (code d l / 256), UInt8.ofNat (code d l % 256)] = pre ++ UInt8.ofNat (flagOf cur) :: (flat cur ++ [UInt8.ofNat (code d l / 256), UInt8.ofNat (code d l % 256)]) by simp [outF], set_mid, hy2]
  simp [outF, flat_append, flat, bodyOf]
theorem flag_small {cur : List Item} (h8 : cur.length < 8) : flagOf cur + 2 ^ cur.length < 256 := by
  have h1 := flagOf_lt cur
  have h2 : 2 ^ (cur.length + 1) ≤ 2 ^ 8 := Nat.pow_le_pow_right (by decide) (by omega)
  rw [Nat.pow_succ] at h2
  omega
end Prs

theorem Ow.put {w0 w : World} {g n c f : Nat} {out : List UInt8} {x : UInt8} (h : Ow w0 w (.slice (some ⟨g, 0, none⟩) n c) out) (hn : out.length = n) (hf : f < n) :
    Ow w0 (w.setCell ⟨g, f, none⟩ (.int .u8 x.toNat)) (.slice (some ⟨g, 0, none⟩) n c) (out.set f x) ∧ w.cell? ⟨g, f, none⟩ = some (.int .u8 (out.getD f 0).toNat) ∧ w.frozen? ⟨g, f, none⟩ = false := by
  subst hn
  have h1 := h.1.stored f (.int .u8 x.toNat)
  rw [bys_set] at h1
  have hb := (h.1.lt g rfl).1
  refine ⟨⟨by rw [List.length_set]; exact h1.1, h.2.grown h1.2 h.2.size (fun j hj => by cases hj; exact hb)⟩, ?_, h.1.frozenAt f⟩
  rw [h.1.cellAt f (by omega), bys_at hf]

/-- append(out, b, c), at the operation. -/
theorem wpList_app2 {ops : Array Oper} {rest : List Oper} {o : Oper} {a : Act} {Q : Exit → Act → World → Prop} (w w0 : World) (hgd : o.guard = none) (s x : Operand)
    (ho : o.op = .call { callee := .builtin .append, args := #[s, x], argTypes := #[23, 23] }) (hty : o.type = 23) (bo : Option Addr) (bc : Nat) (out : List UInt8) (b c : UInt8)
    (hs : a.eval s = .slice bo out.length bc) (hx : a.eval x = .slice (some ⟨w.heap.size, 0, none⟩) 2 2) (hO : Ow w0 w (.slice bo out.length bc) out) (hl : out.length + 2 ≤ 140737488355328)
    (hK : ∀ g c' w', Ow w0 w' (.slice (some ⟨g, 0, none⟩) (out.length + 2) c') (out ++ [b, c]) → wpList Try.prog ops Q rest (a.put o.dst (.slice (some ⟨g, 0, none⟩) (out.length + 2) c')) w') :
    wpList Try.prog ops Q (o :: rest) a (w.alloc (.cells #[.int .u8 b.toNat, .int .u8 c.toNat] 5)) := by
  have hg0 := World.grownBy_alloc w (.cells #[.int .u8 b.toNat, .int .u8 c.toNat] 5) (Value.slice bo out.length bc).ownBlock
  refine wpList_appS _ w0.heap.size hgd s x ho hty bo bc out [b, c] w.heap.size 2 hs hx (hO.1.alloc _) (sl_new2 w b c) rfl (by decide) hl (by have := hO.2.size; have := hg0.size; omega) (fun g c' w' h1 h2 => ?_)
  have hl1 : (out ++ [b, c]).length = out.length + 2 := by simp
  rw [hl1] at h1 ⊢
  exact hK g c' w' ⟨by rw [hl1]; exact h1, hO.2.grown (hg0.trans h2) hO.2.size (fun j hj => (hO.1.lt j hj).1)⟩

/-- Where an item begins: this group has room for it. -/
structure Rb (w wr : World) (data R : List UInt8) (t : Nat) (bo : Option Addr) (bc : Nat) (pre : List UInt8) (cur : List Prs.Item) : Prop where
  ow : Ow w wr (.slice bo (Prs.outF pre cur).length bc) (Prs.outF pre cur)
  lt : cur.length < 8
  enc : ∀ fuel i l, Prs.itemAt data t = (i, l) → data.length - (t + l) ≤ fuel → Prs.encs (Prs.items data fuel (t + l)) pre (cur ++ [i]) = R
  len : (Prs.outF pre cur).length ≤ 2 * t + 1
/-- Between the items. -/
structure Ra (w wr : World) (data R : List UInt8) (t : Nat) (bo : Option Addr) (bc : Nat) (pre : List UInt8) (cur : List Prs.Item) (fl bit : Nat) : Prop where
  ow : Ow w wr (.slice bo (Prs.outOf pre cur).length bc) (Prs.outOf pre cur)
  le : cur.length ≤ 8
  bit : (cur = [] ∧ pre = [] ∧ bit = 8) ∨ (cur ≠ [] ∧ bit = cur.length ∧ fl = pre.length)
  enc : ∀ fuel, data.length - t ≤ fuel → Prs.encs (Prs.items data fuel t) pre cur = R
  len : (Prs.outOf pre cur).length ≤ 2 * t

theorem enc_next {data R : List UInt8} {t : Nat} {pre : List UInt8} {cur : List Prs.Item} (ht : t < data.length) (h : ∀ fuel, data.length - t ≤ fuel → Prs.encs (Prs.items data fuel t) pre cur = R) (fuel : Nat) (i : Prs.Item) (l : Nat) (hi : Prs.itemAt data t = (i, l)) (hf : data.length - (t + l) ≤ fuel) : Prs.encs (Prs.items data fuel (t + l)) (Prs.nxt pre cur i).1 (Prs.nxt pre cur i).2 = R := by
  obtain ⟨e1, e2, e3⟩ := Prs.item_made data t ht
  rw [hi] at e1 e2 e3
  simp only at e2 e3
  have := h (fuel + data.length + 1) (by omega)
  obtain ⟨g, hg', e⟩ := Prs.items_cons data (fuel + data.length + 1) t ht (by omega)
  rw [hi] at e hg'
  rw [e, Prs.encs_nxt] at this
  rw [Prs.items_fuel data fuel g _ e3 hf hg']
  exact this

/-- A new group. -/
theorem Ra.fresh {w wr w' : World} {data R : List UInt8} {t : Nat} {bo : Option Addr} {bc : Nat} {pre : List UInt8} {cur : List Prs.Item} {fl g c : Nat} (h : Ra w wr data R t bo bc pre cur fl 8) (ht : t < data.length) (hO : Ow w w' (.slice (some ⟨g, 0, none⟩) ((Prs.outOf pre cur).length + 1) c) (Prs.outOf pre cur ++ [0])) :
    Rb w w' data R t (some ⟨g, 0, none⟩) c (Prs.outOf pre cur) [] := by
  have e : Prs.outF (Prs.outOf pre cur) [] = Prs.outOf pre cur ++ [0] := by simp [Prs.outF, Prs.flagOf, Prs.flat]
  refine ⟨by rw [e, show (Prs.outOf pre cur ++ ([0] : List UInt8)).length = (Prs.outOf pre cur).length + 1 by simp]; exact hO, by simp, fun fuel i l hi hf => ?_, by rw [e]; simp; exact h.len⟩
  have hn := enc_next ht h.enc fuel i l hi hf
  have : Prs.nxt pre cur i = (Prs.outOf pre cur, [i]) := by
    unfold Prs.nxt
    rcases h.bit with ⟨h1, h2, _⟩ | ⟨_, h2, _⟩
    · subst h1; subst h2; simp [Prs.outOf]
    · rw [if_pos h2.symm]
  rw [this] at hn
  exact hn
/-- The same group. -/
theorem Ra.go {w wr : World} {data R : List UInt8} {t : Nat} {bo : Option Addr} {bc : Nat} {pre : List UInt8} {cur : List Prs.Item} {fl bit : Nat} (h : Ra w wr data R t bo bc pre cur fl bit) (hb : bit ≠ 8) (ht : t < data.length) : Rb w wr data R t bo bc pre cur ∧ bit = cur.length ∧ fl = pre.length := by
  rcases h.bit with ⟨_, _, h2⟩ | ⟨h1, h2, h3⟩
  · exact absurd h2 hb
  · have h8 : cur.length ≠ 8 := by omega
    have hle := h.le
    refine ⟨⟨by rw [Prs.outF_of h1]; exact h.ow, by omega, fun fuel i l hi hf => ?_, by rw [Prs.outF_of h1]; have := h.len; omega⟩, h2, h3⟩
    have hn := enc_next ht h.enc fuel i l hi hf
    rw [show Prs.nxt pre cur i = (pre, cur ++ [i]) by unfold Prs.nxt; rw [if_neg h8]] at hn
    exact hn
theorem Ow.kept {w0 w w' : World} {v : Value} {out : List UInt8} (h : Ow w0 w v out) (hk : Kept [] w w') : Ow w0 w' v out :=
  ⟨h.1.kept (row := none) ⟨hk.os, hk.tape, hk.output, hk.size, fun i hi _ => hk.block i hi (by simp)⟩ (by cases v.ownBlock <;> simp), h.2.trans (hk.below h.2.size (by simp))⟩
theorem Rb.kept {w wr w' : World} {data R : List UInt8} {t : Nat} {bo : Option Addr} {bc : Nat} {pre : List UInt8} {cur : List Prs.Item} (h : Rb w wr data R t bo bc pre cur) (hk : Kept [] wr w') : Rb w w' data R t bo bc pre cur := ⟨h.ow.kept hk, h.lt, h.enc, h.len⟩
theorem Rb.done {w w' wr : World} {data R : List UInt8} {t : Nat} {bo : Option Addr} {bc : Nat} {pre : List UInt8} {cur : List Prs.Item} {bo' : Option Addr} {bc' : Nat} (h : Rb w wr data R t bo bc pre cur) (i : Prs.Item) (l : Nat) (hi : Prs.itemAt data t = (i, l)) (hO : Ow w w' (.slice bo' (Prs.outF pre (cur ++ [i])).length bc') (Prs.outF pre (cur ++ [i]))) (hl : (Prs.outF pre (cur ++ [i])).length ≤ 2 * (t + l)) :
    Ra w w' data R (t + l) bo' bc' pre (cur ++ [i]) pre.length (cur.length + 1) := by
  have e : Prs.outF pre (cur ++ [i]) = Prs.outOf pre (cur ++ [i]) := Prs.outF_of (by simp)
  exact ⟨by rw [← e]; exact hO, by have := h.lt; simp; omega, .inr ⟨by simp, by simp, rfl⟩, fun fuel hf => h.enc fuel i l hi hf, by rw [← e]; exact hl⟩

set_option maxHeartbeats 8000000 in
set_option maxRecDepth 100000 in
theorem refpack_in (pa : Option Addr) (N pc : Nat) (data : List UInt8) (w : World) (hN : data.length = N) (hmax : N ≤ 4096) (hs : Sl w pa data) :
    Calls Try.prog 27 #[.slice pa N pc] w (Ans w (Prs.pack data, 0)) := by
  have hq1 : ¬ ((4096 : Int) < (N : Int)) := by omega
  obtain ⟨R, hR⟩ : ∃ R, Prs.pack data = R := ⟨_, rfl⟩
  rw [hR]
  have HR : Hid (∀ fuel, data.length - 0 ≤ fuel → Prs.encs (Prs.items data fuel 0) [] [] = R) := fun fuel hf => by rw [← hR]; unfold Prs.pack; rw [Prs.items_fuel data fuel data.length 0 (Nat.zero_le _) hf (by omega)]
  have HS := hide hs
  have HN := hide hN
  clear hR hs hN
  go_enter Try.func27, Try.ntmps27
  go_wp2
  go_loopw [4, 5, 6, 7] (fun v f b i wr => ∃ (t fl bit : Nat) (bo : Option Addr) (bc : Nat) (pre : List UInt8) (cur : List Prs.Item) (n : Nat), t ≤ N ∧ i = .int .i64 t ∧ f = .int .i64 fl ∧ b = .int .i64 bit ∧ v = .slice bo n bc ∧ Hid (Ra w wr data R t bo bc pre cur fl bit ∧ n = (Prs.outOf pre cur).length)) (fun _ _ _ i _ => N - (intOf i).toNat)
  case atStart => exact ⟨0, 0, 8, none, 0, [], [], 0, Nat.zero_le _, rfl, rfl, rfl, rfl, ⟨Ow.nil w, by simp, .inl ⟨rfl, rfl, rfl⟩, HR.out, by simp [Prs.outOf]⟩, rfl⟩
  case round =>
    obtain ⟨t, fl, bit, bo, bc, pre, cur, n, ht, rfl, rfl, rfl, rfl, HA⟩ := hrel
    by_cases htN : t < N
    · have hq2 : (t : Int) < (N : Int) := by omega
      obtain ⟨pb, po, hpa, hpb, hcell⟩ := HS.out.open (by rintro rfl; have := HN.out; simp at this; omega)
      subst hpa
      have HPC : Hid (pb < w.heap.size ∧ ∀ i, i < data.length → w.cell? ⟨pb, po + i, none⟩ = some (.int .u8 (data.getD i 0).toNat)) := ⟨hpb, hcell⟩
      clear hpb hcell
      obtain ⟨tl, td, hth⟩ : ∃ tl td, Prs.mtch data t = (tl, td) := ⟨_, _, rfl⟩
      have HM : Hid (∀ W, Below w.heap.size w W → Calls Try.prog 39 #[.slice (some ⟨pb, po, none⟩) N pc, .int .i64 t] W fun e w' => e = .returned (.tuple #[.int .i64 tl, .int .i64 td]) ∧ Kept [] W w') := fun W hB => by
        have := refmatch_ok pb po N pc t data W HN.out hmax ht (fun i hi => (hB.cell (by exact HPC.out.1)).trans (HPC.out.2 i hi))
        rw [hth] at this
        exact this
      have HTH := hide hth
      have HTH0 := HTH
      clear hth
      have htd : t < data.length := by have := HN.out; omega
      have HTD := hide htd
      clear htd
      have hnb : n ≤ 8192 := by rw [HA.out.2]; have := HA.out.1.len; omega
      by_cases hb8 : bit = 8
      · subst hb8
        have hq3 : (((8 : Nat) : Int) == 8) = true := rfl
        obtain ⟨o1, ho1⟩ : ∃ o1, o1 = Prs.outOf pre cur := ⟨_, rfl⟩
        have hno : n = o1.length := by rw [ho1]; exact HA.out.2
        have HO1 : Hid (Ow w wr (.slice bo o1.length bc) o1) := by rw [ho1]; exact HA.out.1.ow
        obtain ⟨o2, ho2⟩ : ∃ o2, o2 = Prs.outF o1 [] := ⟨_, rfl⟩
        have ho2' : o2 = o1 ++ [0] := by rw [ho2]; simp [Prs.outF, Prs.flagOf, Prs.flat]
        have hl2 : o1.length + 1 = o2.length := by rw [ho2']; simp
        have HFR : Hid (∀ w' g c, Ow w w' (.slice (some ⟨g, 0, none⟩) (o1.length + 1) c) (o1 ++ [0]) → Rb w w' data R t (some ⟨g, 0, none⟩) c o1 []) := fun w' g c h => by rw [ho1] at h ⊢; exact HA.out.1.fresh HTD.out h
        have HO2 := hide ho2
        have HL2 := hide hl2
        have hnb2 : o2.length ≤ 8200 := by omega
        subst hno
        clear ho1 HA ho2 ho2' hl2 HTH
        have HTH : Hid (Prs.mtch data t = (tl, td)) := HTH0.out
        by_cases h3 : 3 ≤ tl
        · have hq4 : ((3 : Int) ≤ (tl : Int)) := by omega
          have hmi := Prs.mtch_is data t (by rw [HTH.out]; omega)
          rw [HTH.out] at hmi
          simp only at hmi
          have hl66 : tl ≤ 66 := by have := Prs.alike_le data 66 (t - td) t; omega
          have htd1 : 1 ≤ td ∧ td ≤ 1024 := ⟨hmi.1, hmi.2.1⟩
          have hitem : Prs.itemAt data t = (.mat td tl, tl) := by unfold Prs.itemAt; rw [HTH.out, if_pos h3]
          have htl : t + tl ≤ N := by have := (Prs.item_made data t HTD.out).2.2; rw [hitem] at this; have := HN.out; omega
          have hcv := Prs.code_lt htd1.1 htd1.2 h3 hl66
          have hcvI : ((td : Int) - 1) * 64 + (tl : Int) - 3 = (Prs.code td tl : Int) := by unfold Prs.code; omega
          obtain ⟨cv, hcve⟩ : ∃ cv, cv = Prs.code td tl := ⟨_, rfl⟩
          obtain ⟨x1, hx1⟩ : ∃ x1, x1 = UInt8.ofNat (cv / 256) := ⟨_, rfl⟩
          obtain ⟨x2, hx2⟩ : ∃ x2, x2 = UInt8.ofNat (cv % 256) := ⟨_, rfl⟩
          rw [← hcve] at hcv hcvI
          have hcn := coded_num cv hcv
          rw [← hx1, ← hx2] at hcn
          have e4 : Int.tdiv (cv : Int) 256 = (x1.toNat : Int) := by rw [Int.tdiv_eq_ediv_of_nonneg (by omega), hcn.1]; omega
          have e5 : Int.tmod (cv : Int) 256 = (x2.toNat : Int) := by rw [Int.tmod_eq_emod_of_nonneg (by omega), hcn.2]; omega
          have hx1b := UInt8.toNat_lt x1
          have hx2b := UInt8.toNat_lt x2
          obtain ⟨bl, hbl⟩ : ∃ bl, bl = (([] : List Prs.Item)).length := ⟨_, rfl⟩
          obtain ⟨pl, hpl⟩ : ∃ pl, pl = (o1).length := ⟨_, rfl⟩
          obtain ⟨fg, hfg⟩ : ∃ fg, fg = Prs.flagOf ([] : List Prs.Item) := ⟨_, rfl⟩
          obtain ⟨sh, hsh⟩ : ∃ sh, sh = 2 ^ bl := ⟨_, rfl⟩
          have hb8' : bl < 8 := by rw [hbl]; simp
          have hfs := Prs.flag_small (cur := ([] : List Prs.Item)) (by rw [← hbl]; exact hb8')
          rw [← hbl, ← hfg, ← hsh] at hfs
          obtain ⟨yb, hyb⟩ : ∃ yb, yb = UInt8.ofNat (fg + sh) := ⟨_, rfl⟩
          have hybn : yb.toNat = fg + sh := by rw [hyb, UInt8.toNat_ofNat', Nat.mod_eq_of_lt (by omega)]
          have hshl : (1 : Int) * 2 ^ bl = (sh : Int) := by rw [hsh]; simp
          have hshl2 : (2 : Int) ^ bl = (sh : Int) := by rw [hsh]; simp
          have hws : IntKind.u8.wrap (sh : Int) = (sh : Int) := by rw [IntKind.wrap_u8']; omega
          have hwy : IntKind.u8.wrap ((fg : Int) + (sh : Int)) = (yb.toNat : Int) := by rw [IntKind.wrap_u8', hybn]; omega
          have hblI : ¬ ((bl : Int) < 0) := by omega
          obtain ⟨o3, ho3⟩ : ∃ o3, o3 = o2 ++ [x1, x2] := ⟨_, rfl⟩
          have ho3m : o3.set pl yb = Prs.outF o1 (([] : List Prs.Item) ++ [.mat td tl]) := by
            have := Prs.outF_mat o1 ([] : List Prs.Item) td tl (by rw [← hbl]; exact hb8') yb (by rw [hybn, hfg, hsh, hbl])
            rw [← this, ho3, hx1, hx2, hcve, HO2.out, hpl]
          have hget : o3.getD pl 0 = UInt8.ofNat fg := by
            rw [ho3, HO2.out, hpl, hfg]
            simp [Prs.outF]
          have hgn : (o3.getD pl 0).toNat = fg := by rw [hget, UInt8.toNat_ofNat', Nat.mod_eq_of_lt (by omega)]
          have hl3 : o3.length = o2.length + 2 := by rw [ho3]; simp
          have hfl3 : pl < o3.length := by rw [hl3, HO2.out, hpl]; simp [Prs.outF]; omega
          have HDN : Hid (∀ W w' g c bo bc, Rb w W data R t bo bc o1 ([] : List Prs.Item) → Ow w w' (.slice (some ⟨g, 0, none⟩) (o2.length + 2) c) (o3.set pl yb) → Ra w w' data R (t + tl) (some ⟨g, 0, none⟩) c o1 (([] : List Prs.Item) ++ [.mat td tl]) (o1).length ((([] : List Prs.Item)).length + 1) ∧ o2.length + 2 = (Prs.outOf o1 (([] : List Prs.Item) ++ [.mat td tl])).length) := fun W w' g c bo bc hR hO => by
            have e2 : o2.length + 2 = (Prs.outF o1 (([] : List Prs.Item) ++ [.mat td tl])).length := by rw [← ho3m, List.length_set, hl3]
            have hl := hR.len
            rw [← HO2.out] at hl
            refine ⟨hR.done _ _ hitem (by rw [← e2, ← ho3m]; exact hO) (by rw [← e2]; omega), ?_⟩
            rw [e2, Prs.outF_of (by simp)]
          have HGN := hide hgn
          have hsh1 : sh = 1 := by rw [hsh, hbl]; rfl
          have hw11 : IntKind.u8.wrap 1 = 1 := by rw [IntKind.wrap_u8']; rfl
          have hwy2 : IntKind.u8.wrap ((fg : Int) + 1) = (yb.toNat : Int) := by rw [← hwy, hsh1]; rfl
          clear hsh1 hwy hws hshl hshl2
          have HO3E := hide ho3
          have HL3 := hide hl3
          have HTL := hide htl
          have HPB := hide (And.intro hpl hbl)
          clear hitem hcve hx1 hx2 hcn hfg hsh hfs hyb hybn ho3 ho3m hget hgn hl3 htl hmi hpl hbl
          go_wp2_with (first
            | (at_builtin; refine wpList_app1 wr w rfl _ _ rfl rfl bo bc o1 0 rfl rfl HO1.out (by omega) ?_; intro g c w2 hO2 hG2; have H2 := hide (HFR.out w2 g c hO2); rw [HL2.out]; clear hO2 hG2)
            | (go_at_call 39; refine (HM.out _ H2.out.ow.2).mono ?_; rintro e w3 ⟨rfl, hk3⟩; have H3 : Hid (Rb w w3 data R t (some ⟨g, 0, none⟩) c o1 ([] : List Prs.Item)) := H2.out.kept hk3; have hO3 := H3.out.ow; rw [← HO2.out] at hO3; have HO3 := hide hO3; clear hk3 H2 hO3)
            | (at_builtin; refine wpList_app2 w3 w rfl _ _ rfl rfl (some ⟨g, 0, none⟩) c o2 x1 x2 rfl rfl HO3.out (by omega) ?_; intro g3 c3 w4 hO4; rw [← HO3E.out] at hO4; have HR4 := hide hO4; clear hO4)
            | go_in)
          rw [← HPB.out.1]
          have hlt : pl < o2.length + 2 := by have := HL3.out; omega
          have cF : w4.cell? ⟨g3, pl, none⟩ = some (.int .u8 (fg : Nat)) := by have := (HR4.out.put (x := 0) HL3.out hlt).2.1; rw [HGN.out] at this; exact this
          obtain ⟨n3, hn3⟩ : ∃ n3, n3 = o2.length + 2 := ⟨_, rfl⟩
          have hn3' : o3.length = n3 := by rw [hn3]; exact HL3.out
          rw [← hn3] at HR4 hlt HDN
          rw [← hn3]
          have HN3 := hide hn3
          have hin : ¬ ((n3 : Int) ≤ (pl : Int)) := by omega
          clear hn3
          refine wp_region_late (fun w' => Kept [] w4 w') (fun i => decide (10 ≤ i)) (by kernel_rfl) ?_
          have h0 : Kept [] w4 w4.drew := (Kept.refl [] w4).drew
          generalize World.drew w4 = v0 at h0 ⊢
          have HO0 := hide (HR4.out.kept h0)
          obtain ⟨p1, p2, p3⟩ := HO0.out.put (x := yb) hn3' hlt
          have HP := hide p1
          clear p1 HO0
          refine wpAnyL_free (i := 0) (v := .slice (some ⟨g3, 0, none⟩) n3 c3) rfl (by kernel_rfl) (by kernel_rfl) (by kernel_rfl) (fun _ _ _ h => h) (Or.inl ⟨by rfl, fun w _ => by go_simp⟩) ?_
          try simp only [List.getElem_toArray, List.getElem_cons_zero, List.getElem_cons_succ, Act.put, List.setIfInBounds_toArray, List.set_cons_zero, List.set_cons_succ]
          refine wpAnyL_free (i := 1) (v := .int .i64 pl) rfl (by kernel_rfl) (by kernel_rfl) (by kernel_rfl) (fun _ _ _ h => h) (Or.inl ⟨by rfl, fun w _ => by go_simp⟩) ?_
          try simp only [List.getElem_toArray, List.getElem_cons_zero, List.getElem_cons_succ, Act.put, List.setIfInBounds_toArray, List.set_cons_zero, List.set_cons_succ]
          refine wpAnyL_free (i := 2) (v := .slice (some ⟨g3, 0, none⟩) n3 c3) rfl (by kernel_rfl) (by kernel_rfl) (by kernel_rfl) (fun _ _ _ h => h) (Or.inl ⟨by rfl, fun w _ => by go_simp⟩) ?_
          try simp only [List.getElem_toArray, List.getElem_cons_zero, List.getElem_cons_succ, Act.put, List.setIfInBounds_toArray, List.set_cons_zero, List.set_cons_succ]
          refine wpAnyL_free (i := 3) (v := .int .i64 pl) rfl (by kernel_rfl) (by kernel_rfl) (by kernel_rfl) (fun _ _ _ h => h) (Or.inl ⟨by rfl, fun w _ => by go_simp⟩) ?_
          try simp only [List.getElem_toArray, List.getElem_cons_zero, List.getElem_cons_succ, Act.put, List.setIfInBounds_toArray, List.set_cons_zero, List.set_cons_succ]
          refine wpAnyL_free (i := 4) (v := .pointer (some ⟨g3, pl, none⟩)) rfl (by kernel_rfl) (by kernel_rfl) (by kernel_rfl) (fun _ _ _ h => h) (Or.inl ⟨by rfl, fun w _ => by go_simp⟩) ?_
          try simp only [List.getElem_toArray, List.getElem_cons_zero, List.getElem_cons_succ, Act.put, List.setIfInBounds_toArray, List.set_cons_zero, List.set_cons_succ]
          refine wpAnyL_take (i := 5) (v := .int .u8 (fg : Nat)) rfl (by kernel_rfl) (by kernel_rfl) (by kernel_rfl) (by kernel_rfl) (by kernel_rfl) (fun _ _ _ h => h) (Or.inl ⟨by rfl, fun w hSw => by have c := Kept.cellOf hSw cF (by simp); go_simp⟩) h0 ?_
          try simp only [List.getElem_toArray, List.getElem_cons_zero, List.getElem_cons_succ, Act.put, List.setIfInBounds_toArray, List.set_cons_zero, List.set_cons_succ]
          refine wpAnyL_free (i := 6) (v := .int .i64 0) rfl (by kernel_rfl) (by kernel_rfl) (by kernel_rfl) (fun _ _ _ h => h) (Or.inl ⟨by rfl, fun w _ => by go_simp⟩) ?_
          try simp only [List.getElem_toArray, List.getElem_cons_zero, List.getElem_cons_succ, Act.put, List.setIfInBounds_toArray, List.set_cons_zero, List.set_cons_succ]
          refine wpAnyL_free (i := 7) (v := .int .u8 1) rfl (by kernel_rfl) (by kernel_rfl) (by kernel_rfl) (fun _ _ _ h => h) (Or.inl ⟨by rfl, fun w _ => by go_simp⟩) ?_
          try simp only [List.getElem_toArray, List.getElem_cons_zero, List.getElem_cons_succ, Act.put, List.setIfInBounds_toArray, List.set_cons_zero, List.set_cons_succ]
          refine wpAnyL_free (i := 8) (v := .int .u8 yb.toNat) rfl (by kernel_rfl) (by kernel_rfl) (by kernel_rfl) (fun _ _ _ h => h) (Or.inl ⟨by rfl, fun w _ => by go_simp⟩) ?_
          try simp only [List.getElem_toArray, List.getElem_cons_zero, List.getElem_cons_succ, Act.put, List.setIfInBounds_toArray, List.set_cons_zero, List.set_cons_succ]
          refine wpAnyL_free (i := 9) (v := .pointer (some ⟨g3, pl, none⟩)) rfl (by kernel_rfl) (by kernel_rfl) (by kernel_rfl) (fun _ _ _ h => h) (Or.inl ⟨by rfl, fun w _ => by go_simp⟩) ?_
          try simp only [List.getElem_toArray, List.getElem_cons_zero, List.getElem_cons_succ, Act.put, List.setIfInBounds_toArray, List.set_cons_zero, List.set_cons_succ]
          refine wpAnyL_one (i := 10) (by kernel_rfl) rfl (fun K hK => ?_)
          rw [if_pos (by rfl)]
          go_simp
          refine hK.out _ _ (fun _ h => by cases h) ?_
          clear hK K
          try simp only [List.getElem_toArray, List.getElem_cons_zero, List.getElem_cons_succ, Act.put, List.setIfInBounds_toArray, List.set_cons_zero, List.set_cons_succ]
          refine wpAnyL_done (by kernel_rfl) ?_ _
          clear p2 p3 cF h0
          generalize v0.setCell ⟨g3, pl, none⟩ (.int .u8 yb.toNat) = w5 at HP ⊢
          have HR5 := hide (HDN.out w3 w5 g3 c3 _ _ H3.out HP.out)
          go_wp2
          go_roundw
          case rel => exact ⟨t + tl, (o1).length, (([] : List Prs.Item)).length + 1, some ⟨g3, 0, none⟩, c3, o1, ([] : List Prs.Item) ++ [Prs.Item.mat td tl], n3, HTL.out, by go_num, by rw [HPB.out.1], by simp, rfl, HR5.out⟩
          case measure => simp [intOf]; omega
        · have hq4 : ¬ ((3 : Int) ≤ (tl : Int)) := by omega
          obtain ⟨x, hx⟩ : ∃ x, data.getD t 0 = x := ⟨_, rfl⟩
          have hitem : Prs.itemAt data t = (.lit x, 1) := by rw [← hx]; unfold Prs.itemAt; rw [HTH.out, if_neg h3]
          have HDN : Hid (∀ W w' g c bo bc, Rb w W data R t bo bc o1 ([] : List Prs.Item) → Ow w w' (.slice (some ⟨g, 0, none⟩) (o2.length + 1) c) (o2 ++ [x]) → Ra w w' data R (t + 1) (some ⟨g, 0, none⟩) c o1 (([] : List Prs.Item) ++ [.lit x]) (o1).length ((([] : List Prs.Item)).length + 1) ∧ o2.length + 1 = (Prs.outOf o1 (([] : List Prs.Item) ++ [.lit x])).length) := fun W w' g c bo bc hR hO => by
            have e := Prs.outF_lit o1 ([] : List Prs.Item) x
            rw [← HO2.out] at e
            have e2 : o2.length + 1 = (Prs.outF o1 (([] : List Prs.Item) ++ [.lit x])).length := by rw [← e]; simp
            have hl := hR.len
            rw [← HO2.out] at hl
            refine ⟨hR.done _ _ hitem (by rw [← e, show (o2 ++ [x]).length = o2.length + 1 by simp]; exact hO) (by rw [← e2]; omega), ?_⟩
            rw [e2, Prs.outF_of (by simp)]
          have HCX : Hid (∀ W, Below w.heap.size w W → W.cell? ⟨pb, po + t, none⟩ = some (.int .u8 x.toNat)) := fun W hB => by rw [← hx]; exact (hB.cell (by exact HPC.out.1)).trans (HPC.out.2 t (by have := HN.out; omega))
          clear hx hitem
          go_wp2_with (first
            | (at_builtin; refine wpList_app1 wr w rfl _ _ rfl rfl bo bc o1 0 rfl rfl HO1.out (by omega) ?_; intro g c w2 hO2 hG2; have H2 := hide (HFR.out w2 g c hO2); rw [HL2.out]; clear hO2 hG2)
            | (go_at_call 39; refine (HM.out _ H2.out.ow.2).mono ?_; rintro e w3 ⟨rfl, hk3⟩; have H3 : Hid (Rb w w3 data R t (some ⟨g, 0, none⟩) c o1 ([] : List Prs.Item)) := H2.out.kept hk3; have cx := HCX.out w3 H3.out.ow.2; have hO3 := H3.out.ow; rw [← HO2.out] at hO3; have HO3 := hide hO3; clear hk3 H2 hO3)
            | (at_builtin; refine wpList_app1 w3 w rfl _ _ rfl rfl (some ⟨g, 0, none⟩) c o2 x rfl rfl HO3.out (by omega) ?_; intro g3 c3 w4 hO4 hG4; have HR4 := hide (HDN.out w3 w4 g3 c3 _ _ H3.out hO4); clear hO4 hG4)
            | go_in)
          go_roundw
          case rel => exact ⟨t + 1, (o1).length, (([] : List Prs.Item)).length + 1, some ⟨g3, 0, none⟩, c3, o1, ([] : List Prs.Item) ++ [Prs.Item.lit x], o2.length + 1, by omega, by go_num, rfl, by simp, rfl, HR4.out⟩
          case measure => simp [intOf]; omega
      · have hq3 : ((bit : Int) == 8) = false := by simp; omega
        have HGO := hide (HA.out.1.go hb8 HTD.out)
        obtain ⟨hrb, hbt, hfl⟩ := HGO.out
        subst hbt
        subst hfl
        obtain ⟨o2, ho2⟩ : ∃ o2, o2 = Prs.outF pre cur := ⟨_, rfl⟩
        have hno : n = o2.length := by
          rw [ho2, HA.out.2]
          rcases HA.out.1.bit with ⟨_, _, h2⟩ | ⟨h1, _, _⟩
          · exact absurd h2 hb8
          · rw [Prs.outF_of h1]
        have H2 : Hid (Rb w wr data R t bo bc pre cur) := hrb
        have hcl : cur.length < 8 := hrb.lt
        have HO2 := hide ho2
        have hnb2 : o2.length ≤ 8200 := by omega
        subst hno
        clear HA HGO hrb ho2 hb8
        by_cases h3 : 3 ≤ tl
        · have hq4 : ((3 : Int) ≤ (tl : Int)) := by omega
          have hmi := Prs.mtch_is data t (by rw [HTH.out]; omega)
          rw [HTH.out] at hmi
          simp only at hmi
          have hl66 : tl ≤ 66 := by have := Prs.alike_le data 66 (t - td) t; omega
          have htd1 : 1 ≤ td ∧ td ≤ 1024 := ⟨hmi.1, hmi.2.1⟩
          have hitem : Prs.itemAt data t = (.mat td tl, tl) := by unfold Prs.itemAt; rw [HTH.out, if_pos h3]
          have htl : t + tl ≤ N := by have := (Prs.item_made data t HTD.out).2.2; rw [hitem] at this; have := HN.out; omega
          have hcv := Prs.code_lt htd1.1 htd1.2 h3 hl66
          have hcvI : ((td : Int) - 1) * 64 + (tl : Int) - 3 = (Prs.code td tl : Int) := by unfold Prs.code; omega
          obtain ⟨cv, hcve⟩ : ∃ cv, cv = Prs.code td tl := ⟨_, rfl⟩
          obtain ⟨x1, hx1⟩ : ∃ x1, x1 = UInt8.ofNat (cv / 256) := ⟨_, rfl⟩
          obtain ⟨x2, hx2⟩ : ∃ x2, x2 = UInt8.ofNat (cv % 256) := ⟨_, rfl⟩
          rw [← hcve] at hcv hcvI
          have hcn := coded_num cv hcv
          rw [← hx1, ← hx2] at hcn
          have e4 : Int.tdiv (cv : Int) 256 = (x1.toNat : Int) := by rw [Int.tdiv_eq_ediv_of_nonneg (by omega), hcn.1]; omega
          have e5 : Int.tmod (cv : Int) 256 = (x2.toNat : Int) := by rw [Int.tmod_eq_emod_of_nonneg (by omega), hcn.2]; omega
          have hx1b := UInt8.toNat_lt x1
          have hx2b := UInt8.toNat_lt x2
          obtain ⟨bl, hbl⟩ : ∃ bl, bl = (cur).length := ⟨_, rfl⟩
          obtain ⟨pl, hpl⟩ : ∃ pl, pl = (pre).length := ⟨_, rfl⟩
          obtain ⟨fg, hfg⟩ : ∃ fg, fg = Prs.flagOf cur := ⟨_, rfl⟩
          obtain ⟨sh, hsh⟩ : ∃ sh, sh = 2 ^ bl := ⟨_, rfl⟩
          have hb8' : bl < 8 := by rw [hbl]; exact H2.out.lt
          have hfs := Prs.flag_small (cur := cur) (by rw [← hbl]; exact hb8')
          rw [← hbl, ← hfg, ← hsh] at hfs
          obtain ⟨yb, hyb⟩ : ∃ yb, yb = UInt8.ofNat (fg + sh) := ⟨_, rfl⟩
          have hybn : yb.toNat = fg + sh := by rw [hyb, UInt8.toNat_ofNat', Nat.mod_eq_of_lt (by omega)]
          have hshl : (1 : Int) * 2 ^ bl = (sh : Int) := by rw [hsh]; simp
          have hshl2 : (2 : Int) ^ bl = (sh : Int) := by rw [hsh]; simp
          have hws : IntKind.u8.wrap (sh : Int) = (sh : Int) := by rw [IntKind.wrap_u8']; omega
          have hwy : IntKind.u8.wrap ((fg : Int) + (sh : Int)) = (yb.toNat : Int) := by rw [IntKind.wrap_u8', hybn]; omega
          have hblI : ¬ ((bl : Int) < 0) := by omega
          obtain ⟨o3, ho3⟩ : ∃ o3, o3 = o2 ++ [x1, x2] := ⟨_, rfl⟩
          have ho3m : o3.set pl yb = Prs.outF pre (cur ++ [.mat td tl]) := by
            have := Prs.outF_mat pre cur td tl (by rw [← hbl]; exact hb8') yb (by rw [hybn, hfg, hsh, hbl])
            rw [← this, ho3, hx1, hx2, hcve, HO2.out, hpl]
          have hget : o3.getD pl 0 = UInt8.ofNat fg := by
            rw [ho3, HO2.out, hpl, hfg]
            simp [Prs.outF]
          have hgn : (o3.getD pl 0).toNat = fg := by rw [hget, UInt8.toNat_ofNat', Nat.mod_eq_of_lt (by omega)]
          have hl3 : o3.length = o2.length + 2 := by rw [ho3]; simp
          have hfl3 : pl < o3.length := by rw [hl3, HO2.out, hpl]; simp [Prs.outF]; omega
          have HDN : Hid (∀ W w' g c bo bc, Rb w W data R t bo bc pre cur → Ow w w' (.slice (some ⟨g, 0, none⟩) (o2.length + 2) c) (o3.set pl yb) → Ra w w' data R (t + tl) (some ⟨g, 0, none⟩) c pre (cur ++ [.mat td tl]) (pre).length ((cur).length + 1) ∧ o2.length + 2 = (Prs.outOf pre (cur ++ [.mat td tl])).length) := fun W w' g c bo bc hR hO => by
            have e2 : o2.length + 2 = (Prs.outF pre (cur ++ [.mat td tl])).length := by rw [← ho3m, List.length_set, hl3]
            have hl := hR.len
            rw [← HO2.out] at hl
            refine ⟨hR.done _ _ hitem (by rw [← e2, ← ho3m]; exact hO) (by rw [← e2]; omega), ?_⟩
            rw [e2, Prs.outF_of (by simp)]
          have HGN := hide hgn
          skip
          have HO3E := hide ho3
          have HL3 := hide hl3
          have HTL := hide htl
          have HPB := hide (And.intro hpl hbl)
          clear hitem hcve hx1 hx2 hcn hfg hsh hfs hyb hybn ho3 ho3m hget hgn hl3 htl hmi hpl hbl
          go_wp2_with (first
            | (go_at_call 39; refine (HM.out _ H2.out.ow.2).mono ?_; rintro e w3 ⟨rfl, hk3⟩; have H3 : Hid (Rb w w3 data R t bo bc pre cur) := H2.out.kept hk3; have hO3 := H3.out.ow; rw [← HO2.out] at hO3; have HO3 := hide hO3; clear hk3 H2 hO3)
            | (at_builtin; refine wpList_app2 w3 w rfl _ _ rfl rfl bo bc o2 x1 x2 rfl rfl HO3.out (by omega) ?_; intro g3 c3 w4 hO4; rw [← HO3E.out] at hO4; have HR4 := hide hO4; clear hO4)
            | go_in)
          rw [← HPB.out.1, ← HPB.out.2]
          have hlt : pl < o2.length + 2 := by have := HL3.out; omega
          have cF : w4.cell? ⟨g3, pl, none⟩ = some (.int .u8 (fg : Nat)) := by have := (HR4.out.put (x := 0) HL3.out hlt).2.1; rw [HGN.out] at this; exact this
          obtain ⟨n3, hn3⟩ : ∃ n3, n3 = o2.length + 2 := ⟨_, rfl⟩
          have hn3' : o3.length = n3 := by rw [hn3]; exact HL3.out
          rw [← hn3] at HR4 hlt HDN
          rw [← hn3]
          have HN3 := hide hn3
          have hin : ¬ ((n3 : Int) ≤ (pl : Int)) := by omega
          clear hn3
          refine wp_region_late (fun w' => Kept [] w4 w') (fun i => decide (10 ≤ i)) (by kernel_rfl) ?_
          have h0 : Kept [] w4 w4.drew := (Kept.refl [] w4).drew
          generalize World.drew w4 = v0 at h0 ⊢
          have HO0 := hide (HR4.out.kept h0)
          obtain ⟨p1, p2, p3⟩ := HO0.out.put (x := yb) hn3' hlt
          have HP := hide p1
          clear p1 HO0
          refine wpAnyL_free (i := 0) (v := .slice (some ⟨g3, 0, none⟩) n3 c3) rfl (by kernel_rfl) (by kernel_rfl) (by kernel_rfl) (fun _ _ _ h => h) (Or.inl ⟨by rfl, fun w _ => by go_simp⟩) ?_
          try simp only [List.getElem_toArray, List.getElem_cons_zero, List.getElem_cons_succ, Act.put, List.setIfInBounds_toArray, List.set_cons_zero, List.set_cons_succ]
          refine wpAnyL_free (i := 1) (v := .int .i64 pl) rfl (by kernel_rfl) (by kernel_rfl) (by kernel_rfl) (fun _ _ _ h => h) (Or.inl ⟨by rfl, fun w _ => by go_simp⟩) ?_
          try simp only [List.getElem_toArray, List.getElem_cons_zero, List.getElem_cons_succ, Act.put, List.setIfInBounds_toArray, List.set_cons_zero, List.set_cons_succ]
          refine wpAnyL_free (i := 2) (v := .slice (some ⟨g3, 0, none⟩) n3 c3) rfl (by kernel_rfl) (by kernel_rfl) (by kernel_rfl) (fun _ _ _ h => h) (Or.inl ⟨by rfl, fun w _ => by go_simp⟩) ?_
          try simp only [List.getElem_toArray, List.getElem_cons_zero, List.getElem_cons_succ, Act.put, List.setIfInBounds_toArray, List.set_cons_zero, List.set_cons_succ]
          refine wpAnyL_free (i := 3) (v := .int .i64 pl) rfl (by kernel_rfl) (by kernel_rfl) (by kernel_rfl) (fun _ _ _ h => h) (Or.inl ⟨by rfl, fun w _ => by go_simp⟩) ?_
          try simp only [List.getElem_toArray, List.getElem_cons_zero, List.getElem_cons_succ, Act.put, List.setIfInBounds_toArray, List.set_cons_zero, List.set_cons_succ]
          refine wpAnyL_free (i := 4) (v := .pointer (some ⟨g3, pl, none⟩)) rfl (by kernel_rfl) (by kernel_rfl) (by kernel_rfl) (fun _ _ _ h => h) (Or.inl ⟨by rfl, fun w _ => by go_simp⟩) ?_
          try simp only [List.getElem_toArray, List.getElem_cons_zero, List.getElem_cons_succ, Act.put, List.setIfInBounds_toArray, List.set_cons_zero, List.set_cons_succ]
          refine wpAnyL_take (i := 5) (v := .int .u8 (fg : Nat)) rfl (by kernel_rfl) (by kernel_rfl) (by kernel_rfl) (by kernel_rfl) (by kernel_rfl) (fun _ _ _ h => h) (Or.inl ⟨by rfl, fun w hSw => by have c := Kept.cellOf hSw cF (by simp); go_simp⟩) h0 ?_
          try simp only [List.getElem_toArray, List.getElem_cons_zero, List.getElem_cons_succ, Act.put, List.setIfInBounds_toArray, List.set_cons_zero, List.set_cons_succ]
          refine wpAnyL_free (i := 6) (v := .int .i64 bl) rfl (by kernel_rfl) (by kernel_rfl) (by kernel_rfl) (fun _ _ _ h => h) (Or.inl ⟨by rfl, fun w _ => by go_simp⟩) ?_
          try simp only [List.getElem_toArray, List.getElem_cons_zero, List.getElem_cons_succ, Act.put, List.setIfInBounds_toArray, List.set_cons_zero, List.set_cons_succ]
          refine wpAnyL_free (i := 7) (v := .int .u8 sh) rfl (by kernel_rfl) (by kernel_rfl) (by kernel_rfl) (fun _ _ _ h => h) (Or.inl ⟨by rfl, fun w _ => by go_simp⟩) ?_
          try simp only [List.getElem_toArray, List.getElem_cons_zero, List.getElem_cons_succ, Act.put, List.setIfInBounds_toArray, List.set_cons_zero, List.set_cons_succ]
          refine wpAnyL_free (i := 8) (v := .int .u8 yb.toNat) rfl (by kernel_rfl) (by kernel_rfl) (by kernel_rfl) (fun _ _ _ h => h) (Or.inl ⟨by rfl, fun w _ => by go_simp⟩) ?_
          try simp only [List.getElem_toArray, List.getElem_cons_zero, List.getElem_cons_succ, Act.put, List.setIfInBounds_toArray, List.set_cons_zero, List.set_cons_succ]
          refine wpAnyL_free (i := 9) (v := .pointer (some ⟨g3, pl, none⟩)) rfl (by kernel_rfl) (by kernel_rfl) (by kernel_rfl) (fun _ _ _ h => h) (Or.inl ⟨by rfl, fun w _ => by go_simp⟩) ?_
          try simp only [List.getElem_toArray, List.getElem_cons_zero, List.getElem_cons_succ, Act.put, List.setIfInBounds_toArray, List.set_cons_zero, List.set_cons_succ]
          refine wpAnyL_one (i := 10) (by kernel_rfl) rfl (fun K hK => ?_)
          rw [if_pos (by rfl)]
          go_simp
          refine hK.out _ _ (fun _ h => by cases h) ?_
          clear hK K
          try simp only [List.getElem_toArray, List.getElem_cons_zero, List.getElem_cons_succ, Act.put, List.setIfInBounds_toArray, List.set_cons_zero, List.set_cons_succ]
          refine wpAnyL_done (by kernel_rfl) ?_ _
          clear p2 p3 cF h0
          generalize v0.setCell ⟨g3, pl, none⟩ (.int .u8 yb.toNat) = w5 at HP ⊢
          have HR5 := hide (HDN.out w3 w5 g3 c3 _ _ H3.out HP.out)
          go_wp2
          go_roundw
          case rel => exact ⟨t + tl, (pre).length, (cur).length + 1, some ⟨g3, 0, none⟩, c3, pre, cur ++ [Prs.Item.mat td tl], n3, HTL.out, by go_num, by rw [HPB.out.1], by have := HPB.out.2; go_num, rfl, HR5.out⟩
          case measure => simp [intOf]; omega
        · have hq4 : ¬ ((3 : Int) ≤ (tl : Int)) := by omega
          obtain ⟨x, hx⟩ : ∃ x, data.getD t 0 = x := ⟨_, rfl⟩
          have hitem : Prs.itemAt data t = (.lit x, 1) := by rw [← hx]; unfold Prs.itemAt; rw [HTH.out, if_neg h3]
          have HDN : Hid (∀ W w' g c bo bc, Rb w W data R t bo bc pre cur → Ow w w' (.slice (some ⟨g, 0, none⟩) (o2.length + 1) c) (o2 ++ [x]) → Ra w w' data R (t + 1) (some ⟨g, 0, none⟩) c pre (cur ++ [.lit x]) (pre).length ((cur).length + 1) ∧ o2.length + 1 = (Prs.outOf pre (cur ++ [.lit x])).length) := fun W w' g c bo bc hR hO => by
            have e := Prs.outF_lit pre cur x
            rw [← HO2.out] at e
            have e2 : o2.length + 1 = (Prs.outF pre (cur ++ [.lit x])).length := by rw [← e]; simp
            have hl := hR.len
            rw [← HO2.out] at hl
            refine ⟨hR.done _ _ hitem (by rw [← e, show (o2 ++ [x]).length = o2.length + 1 by simp]; exact hO) (by rw [← e2]; omega), ?_⟩
            rw [e2, Prs.outF_of (by simp)]
          have HCX : Hid (∀ W, Below w.heap.size w W → W.cell? ⟨pb, po + t, none⟩ = some (.int .u8 x.toNat)) := fun W hB => by rw [← hx]; exact (hB.cell (by exact HPC.out.1)).trans (HPC.out.2 t (by have := HN.out; omega))
          clear hx hitem
          go_wp2_with (first
            | (go_at_call 39; refine (HM.out _ H2.out.ow.2).mono ?_; rintro e w3 ⟨rfl, hk3⟩; have H3 : Hid (Rb w w3 data R t bo bc pre cur) := H2.out.kept hk3; have cx := HCX.out w3 H3.out.ow.2; have hO3 := H3.out.ow; rw [← HO2.out] at hO3; have HO3 := hide hO3; clear hk3 H2 hO3)
            | (at_builtin; refine wpList_app1 w3 w rfl _ _ rfl rfl bo bc o2 x rfl rfl HO3.out (by omega) ?_; intro g3 c3 w4 hO4 hG4; have HR4 := hide (HDN.out w3 w4 g3 c3 _ _ H3.out hO4); clear hO4 hG4)
            | go_in)
          go_roundw
          case rel => exact ⟨t + 1, (pre).length, (cur).length + 1, some ⟨g3, 0, none⟩, c3, pre, cur ++ [Prs.Item.lit x], o2.length + 1, by omega, by go_num, rfl, by go_num, rfl, HR4.out⟩
          case measure => simp [intOf]; omega
    · have htN2 : t = N := by omega
      have hq2 : ¬ ((t : Int) < (N : Int)) := by omega
      have hfin := HA.out.1.enc 0 (by have := HN.out; omega)
      have he : Prs.encs (Prs.items data 0 t) pre cur = Prs.outOf pre cur := rfl
      rw [he] at hfin
      have hno := HA.out.2
      rw [hfin] at hno
      have HO : Hid (Ow w wr (.slice bo R.length bc) R) := by rw [← hfin]; exact HA.out.1.ow
      subst hno
      clear htN2 hfin he htN HA
      go_wp2
      go_ret2
      exact HO.out.ans 0

set_option maxHeartbeats 1000000 in
set_option maxRecDepth 100000 in
theorem refpack_long (pa : Option Addr) (N pc : Nat) (w : World) (hN : 4096 < N) :
    Calls Try.prog 27 #[.slice pa N pc] w (Ans w ([], 2)) := by
  have hq1 : (4096 : Int) < (N : Int) := by omega
  go_enter Try.func27, Try.ntmps27
  go_wp2
  go_ret2
  exact ans_none 2 (Below.refl _ _)
theorem refpack_any (pa : Option Addr) (N pc : Nat) (data : List UInt8) (w : World) (hN : data.length = N) (hs : Sl w pa data) :
    Calls Try.prog 27 #[.slice pa N pc] w (Ans w (Prs.packed data)) := by
  unfold Prs.packed
  by_cases h : 4096 < data.length
  · rw [if_pos h]; exact refpack_long pa N pc w (by omega)
  · rw [if_neg h]; exact refpack_in pa N pc data w hN (by omega) hs

end Go.Proofs.Ytdnbpklnkmgmkaa
