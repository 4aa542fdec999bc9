/-
  DiskTorn: the walk. (Written by tools/te.py.)
-/
import Derived.Test.YtlokekjljibmbaaTf
import Derived.Test.YtlokekjljibmbaaOl
import Derived.Deep.CutRange
import Derived.Deep.CutBlock
namespace Go.Proofs.Ytlokekjljibmbaa
open Go.RowKit Dsk
set_option linter.unusedVariables false
set_option linter.unusedSimpArgs false
/-- append under a guard that is met. -/
theorem wpList_app_guard {P : Program} {ops : Array Oper} {rest : List Oper} {o : Oper} {a : Act} {w : World} {Q : Exit → Act → World → Prop} (hg : Region.wanted o (yielded ops a.tmps) = true) (s x : Operand) (t t2 : TypeId) (ho : o.op = .call { callee := .builtin .append, args := #[s, x], argTypes := #[t, t2] }) (vs vx : Value) (hs : a.eval s = vs) (hx : a.eval x = vx) (v' : Value) (w' : World)
    (hrun : (Builtin.append_ #[t, t2] o.type #[vs, vx]).run P w = .ok v' w') (hK : wpList P ops Q rest (a.put o.dst v') w') : wpList P ops Q (o :: rest) a w :=
  wpList_step fun K' hK' => by
    rw [hg]
    simp only [if_true]
    exact wp_append_run s x t t2 ho vs vx hs hx v' w' hrun (hK' _ _ hK)
theorem Ax.sub {X Y : Nat → Prop} {wa w : World} {p : Nat} {S : Ds} {N : Nat} (h : Ax Y wa w p S N) (hs : ∀ b, X b → Y b) : Ax X wa w p S N := by
  obtain ⟨A, o, h1, h2, h3, h4⟩ := h
  exact ⟨A, o, h1, fun b hb => h2 b (hs b hb), h3.mono (fun b hb _ hx => hb (hs b hx)), h4⟩
def wcost (L : List Wm) : Nat := (L.map (fun s => s.dn + 1)).sum
theorem rnd_tmod2 (p : Int) (n : Nat) : (if p.tmod ((n : Int) + 1) < 0 then p.tmod ((n : Int) + 1) + (n : Int) + 1 else p.tmod ((n : Int) + 1)) = (rnd p n : Int) := by
  have h := rnd_go p n
  have h1 : -((n : Int) + 1) < p.tmod ((n : Int) + 1) := Int.lt_tmod_of_pos p (by omega)
  have h2 : p.tmod ((n : Int) + 1) < (n : Int) + 1 := Int.tmod_lt_of_pos p (by omega)
  generalize p.tmod ((n : Int) + 1) = a at *
  by_cases hn : a < 0
  · rw [if_pos hn]
    rw [← h, Int.tmod_eq_of_lt (by omega) (by omega)]
    omega
  · rw [if_neg hn]
    rw [← h, Int.tmod_eq_emod_of_nonneg (by omega), Int.add_emod_right, Int.emod_eq_of_lt (by omega) (by omega)]
theorem write_len2 (b : By) (a : Nat) (d : By) (h : a ≤ b.length) : ((Ch.wr a d).apply b (Ch.wr a d).units).length = max b.length (a + d.length) := by
  simp only [Ch.apply, Ch.units, List.take_length, List.length_append, List.length_take, List.length_drop]
  omega
/-- One write more was done: how many units, how many bytes. -/
theorem done_more {xs : By} {D : List Wm} {s : Wm} {U Z a : Nat} (hU : unitsOf (D.map (fun s => s.x.ch)) = U) (hZ : (runs xs (D.map (fun s => s.x.ch))).length = Z) (ha : s.x.at_ = (a : Int)) (haZ : a ≤ Z) (hd : s.x.data.length = s.dn) :
    unitsOf ((D ++ [s]).map (fun s => s.x.ch)) = U + (if s.x.cut then 1 else s.dn) ∧ (runs xs ((D ++ [s]).map (fun s => s.x.ch))).length = (if s.x.cut then a else max Z (a + s.dn)) := by
  have e : s.x.ch = (if s.x.cut then Ch.cut a else Ch.wr a s.x.data) := by unfold Wt.ch; rw [ha]; simp
  rw [List.map_append, List.map_cons, List.map_nil, unitsOf_snoc, runs_snoc, hU, e]
  by_cases hc : s.x.cut = true
  · simp only [if_pos hc]
    refine ⟨rfl, ?_⟩
    show ((runs xs (D.map (fun s => s.x.ch))).take a).length = a
    simp only [List.length_take]
    omega
  · simp only [if_neg hc]
    refine ⟨by show U + s.x.data.length = _; rw [hd], ?_⟩
    rw [write_len2 _ _ _ (by rw [hZ]; exact haZ), hZ, hd]
theorem wcost_app (a b : List Wm) : wcost (a ++ b) = wcost a + wcost b := by simp [wcost]
theorem wcost_snoc (L : List Wm) (k : Nat) (h : k < L.length) : wcost (L.take (k + 1)) = wcost (L.take k) + ((L.getD k wm0).dn + 1) := by
  have : L[k]? = some (L.getD k wm0) := by rw [List.getD_eq_getElem?_getD, List.getElem?_eq_getElem h]; rfl
  rw [List.take_add_one, this]
  simp [wcost]
theorem WmIn.kept {w w' : World} {s : Wm} (h : WmIn w s) (hk : Kept [] w w') : WmIn w' s := ⟨⟨h.inb.len, h.inb.le, h.inb.max, h.inb.sl.keep (Keep.ofNone (F := fun _ => False) hk) (fun _ _ _ h => h), h.inb.nil, h.inb.spot⟩, h.wa⟩

set_option maxHeartbeats 80000000 in
set_option maxRecDepth 100000 in
theorem torn_walk (ao : Option Addr) (n cap : Nat) (bo : Option Addr) (m mcap : Nat) (pick off how : Int) (xs : By) (L : List Wm) (w : World) (hb : InB w ao n cap xs) (hl : L.length = m) (hs : Wrs w bo L) (hm : m ≤ 9223372036854775807) (hpk : (Lit.int .i64 pick).wf = true) (hof : (Lit.int .i64 off).wf = true) (hho : (Lit.int .i64 how).wf = true) :
    Calls Try.prog 3 #[.slice ao n cap, .slice bo m mcap, .int .i64 pick, .int .i64 off, .int .i64 how] w fun e w' => e = .returned (.bool true) ∧ Below w.heap.size w w' := by
  have hnm : n ≤ 140737488351232 := by have := hb.le; have := hb.max; omega
  have HB := hide hb
  have HS := hide hs
  have HL := hide hl
  clear hb hs hl
  go_enter Try.func3, Try.ntmps3
  go_upto_region 3 with (fail)
  go_loopw [12, 11] (fun i nv wr => ∃ k : Nat, k ≤ m ∧ i = .int .i64 k ∧ nv = .int .i64 ((n + wcost (L.take k) : Nat) : Int) ∧ (k = 0 ∨ n + wcost (L.take k) ≤ 100000) ∧ wr = w) (fun i _ wr => m - (intOf i).toNat)
  case atStart => exact ⟨0, Nat.zero_le _, rfl, by simp [wcost], .inl rfl, rfl⟩
  case round =>
    obtain ⟨k, hk, rfl, rfl, hc, hwr⟩ := hrel
    obtain rfl := hwr.symm
    by_cases hlt : k < m
    · have hkL : k < L.length := by rw [HL.out]; exact hlt
      obtain ⟨b, boff, rfl, hcs, hin⟩ := HS.out k hkL
      have c2 := hcs 2 _ rfl
      have hco := wcost_snoc L k hkL
      have hdn : (L.getD k wm0).dn ≤ 140737488351232 := by have := hin.inb.le; have := hin.inb.max; omega
      have hw0 : k = 0 → wcost (L.take k) = 0 := fun h => by rw [h]; simp [wcost]
      have hwb : wcost (L.take k) ≤ 100000 := by rcases hc with h | h; rw [hw0 h]; omega; omega
      generalize (L.getD k wm0).dn = dn at *
      generalize wcost (L.take k) = wc at *
      have HCO := hide hco
      by_cases hbig : 100000 < n + wc + dn + 1
      · have hbig2 : (100000 : Int) < (n : Int) + (wc : Int) + (dn : Int) + 1 := by omega
        clear hc hco hw0 hcs hin
        as_aux_lemma =>
          go_wp2
          go_ret
          exact ⟨rfl, Below.refl _ _⟩
      · have hbig2 : ¬ (100000 : Int) < (n : Int) + (wc : Int) + (dn : Int) + 1 := by omega
        clear hc hco hw0 hcs hin
        as_aux_lemma =>
          go_wp2
          refine ⟨⟨k + 1, by omega, by go_num, by rw [HCO.out]; go_num, .inr (by rw [HCO.out]; omega), by first | rfl | trivial⟩, by simp [intOf]; omega⟩
    · have hkm : k = m := by omega
      subst hkm
      have hfull : L.take k = L := List.take_of_length_le (by rw [HL.out]; omega)
      rw [hfull] at hc ⊢
      have hwz : k = 0 → wcost L = 0 := fun h => by
        have : L = [] := List.eq_nil_of_length_eq_zero (by rw [HL.out]; exact h)
        rw [this]; rfl
      generalize hwe : wcost L = wc at *
      by_cases h200 : 200 < k
      · clear hc
        as_aux_lemma =>
          go_wp2
          go_ret
          exact ⟨rfl, Below.refl _ _⟩
      by_cases hn1 : 100000 < n
      · clear hc
        as_aux_lemma =>
          go_wp2
          go_ret
          exact ⟨rfl, Below.refl _ _⟩
      have hwc : wc ≤ 100000 := by rcases hc with h | h; rw [hwz h]; omega; omega
      have HWC := hide hwc
      generalize hte : n + wc = tot at *
      have htb : tot ≤ 200000 := by omega
      have hpb : k * tot ≤ 200 * 200000 := Nat.mul_le_mul (by omega) htb
      have hpe : (k : Int) * (tot : Int) = ((k * tot : Nat) : Int) := by rw [Int.natCast_mul]
      have hwr : IntKind.i64.wrap ((k : Int) * (tot : Int)) = (k : Int) * (tot : Int) := by rw [hpe, IntKind.wrap_i64]; omega
      by_cases h3m : 3000000 < k * tot
      · have h3m2 : (3000000 : Int) < (k : Int) * (tot : Int) := by rw [hpe]; omega
        clear hc hpe hte
        as_aux_lemma =>
          go_wp2
          go_ret
          exact ⟨rfl, Below.refl _ _⟩
      have h3m2 : ¬ (3000000 : Int) < (k : Int) * (tot : Int) := by rw [hpe]; omega
      clear hpe hpb
      have hnw : Calls Try.prog 4 #[.int .i64 1048576] w fun e w' => ∃ p, e = .returned (.tuple #[.pointer (some ⟨p, 0, none⟩), .int .i64 0]) ∧ At w w' p (Ds.fresh 1048576) 0 := (new_at 1048576 w (by decide)).mono (by
        rintro e w' ⟨u, rfl, _, h1, _⟩
        have hrE : roomE 1048576 = 0 := by decide
        rw [hrE] at h1 ⊢
        obtain ⟨p, rfl, hat⟩ := h1 rfl
        exact ⟨p, rfl, hat⟩)
      have HT := hide (torn0_ok xs (by rw [HB.out.len]; omega))
      have HN := hide (And.intro hn1 h200)
      clear hc hwz
      go_upto_region 13 with (first
        | (go_at_call 4; refine hnw.mono ?_; rintro e w2 ⟨p, rfl, ha2⟩; have hcr := create_at ha2 (by omega) [102] (by decide); rw [HT.out.1] at hcr; clear hnw ha2)
        | (go_at_call 5; refine hcr.mono ?_; rintro e w3 ⟨rfl, ha3⟩; obtain ⟨g, c', w4, hap, hsl, hk4, hg4⟩ := fresh_bytes w3 22 ao n cap xs HB.out.len (HB.out.sl.keep (Keep.ofNone (F := fun _ => False) ha3.old) (fun _ _ _ h => h)) (fun e => ⟨by have h1 := (HB.out.nil e).1; have h2 := HB.out.len; rw [h1] at h2; exact h2.symm, (HB.out.nil e).2⟩) (by omega); have hpp := append_at ha3 hk4 (n := n) (c := c') (d := xs) (by omega) [102] (by decide) HB.out.len hsl (by simp) (fun _ a ha => by cases ha; exact .inl hg4); rw [HT.out.2.1] at hpp; clear hcr ha3 hsl hk4 hg4)
        | (at_builtin; refine wpList_app_guard (by rfl) _ _ 22 22 rfl _ _ rfl rfl _ _ hap ?_; clear hap)
        | (go_at_call 6; refine hpp.mono ?_; rintro e w5 ⟨rfl, ha5⟩; have hsy := sync_at ha5 (by omega) [102] (by decide); rw [HT.out.2.2.1] at hsy; clear hpp ha5)
        | (go_at_call 7; refine hsy.mono ?_; rintro e w6 ⟨rfl, ha6⟩; have hsn := syncNames_at ha6 (by omega); rw [HT.out.2.2.2.1] at hsn; clear hsy ha6)
        | (go_at_call 8; refine hsn.mono ?_; rintro e w7 ⟨rfl, ha7⟩; have H7 : Hid (At w w7 p (torn0 xs) (n + 10)) := hide (ha7.mono (by omega)); clear hsn ha7))
      have hpl := plan_at H7.out off 0 0 ⟨hof, by decide, by decide⟩
      have HT0 : Hid (To ((torn0 xs).setPlan off 0 0) xs [] ∧ ((torn0 xs).setPlan off 0 0).on = true) := hide ⟨HT.out.2.2.2.2.1.plan off, by simp [Ds.setPlan, HT.out.2.2.2.2.2]⟩
      generalize (torn0 xs).setPlan off 0 0 = S0 at hpl HT0
      have HWE := hide hwe
      have HNT := hide hte
      clear HT H7 hwe hte
      go_upto_block 2 with (go_at_call 9; refine hpl.mono ?_; rintro e w8 ⟨rfl, ha8⟩; have H8 := hide (Tos.begin ha8); clear hpl ha8)
      go_cut [15, 16] from 17 to 191 (fun dv uv wx => ∃ (vo : Option Addr) (dl vk U : Nat), dv = .slice vo dl vk ∧ uv = .int .i64 U ∧ dl ≤ k ∧ U ≤ 100000 ∧ Hid (∃ S D Z, Z ≤ 200000 ∧ fits xs (D.map (fun s => s.x.ch)) ∧ unitsOf (D.map (fun s => s.x.ch)) = U ∧ (runs xs (D.map (fun s => s.x.ch))).length = Z ∧ To S xs (D.map (fun s => s.x.ch)) ∧ D.length = dl ∧ (∀ s ∈ D, s ∈ L ∧ 0 ≤ s.x.at_) ∧ Tos w wx p S 500000 (.slice vo dl vk) D))
      case first =>
        go_upto_region 18 with (fail)
        go_loopw [18, 15, 16, 17, 19, 20, 21] (fun i dv uv zv _ _ _ wr => ∃ j : Nat, j ≤ k ∧ i = .int .i64 j ∧ ∃ (vo : Option Addr) (dl vk U Z : Nat), dv = .slice vo dl vk ∧ uv = .int .i64 U ∧ zv = .int .i64 Z ∧ dl ≤ j ∧ U ≤ 100000 ∧ Z ≤ 200000 ∧ Hid (∃ S D, To S xs (D.map (fun s => s.x.ch)) ∧ S.on = true ∧ D.length = dl ∧ (∀ s ∈ D, s ∈ L ∧ 0 ≤ s.x.at_) ∧ unitsOf (D.map (fun s => s.x.ch)) = U ∧ (runs xs (D.map (fun s => s.x.ch))).length = Z ∧ U ≤ wcost (L.take j) ∧ Tos w wr p S (n + 10 + wcost (L.take j) + 4 * j) (.slice vo dl vk) D)) (fun i _ _ _ _ _ _ wr => k - (intOf i).toNat)
        case atStart => exact ⟨0, Nat.zero_le _, rfl, none, 0, 0, 0, n, rfl, rfl, rfl, Nat.zero_le _, by omega, by omega, hide ⟨S0, [], HT0.out.1, HT0.out.2, rfl, by simp, rfl, HB.out.len, Nat.zero_le _, by simpa [wcost] using H8.out⟩⟩
        case round =>
          clear H8 HT0
          obtain ⟨j, hj, rfl, vo, dl, vk, U, Z, rfl, rfl, rfl, hdl, hU, hZ, HR⟩ := hrel
          obtain ⟨S, D, hTo, hon, hDl, hDL, hUe, hZe, hUw, hTs⟩ := HR.out
          clear HR
          by_cases hlt : j < k
          · have hkL : j < L.length := by rw [HL.out]; exact hlt
            obtain ⟨b, boff, rfl, hcs, hin⟩ := HS.out j hkL
            have c0 := hTs.old.cellOf (hcs 0 _ rfl) (by simp)
            have c1 := hTs.old.cellOf (hcs 1 _ rfl) (by simp)
            have c2 := hTs.old.cellOf (hcs 2 _ rfl) (by simp)
            have hsL : L.getD j wm0 ∈ L := by rw [List.getD_eq_getElem?_getD, List.getElem?_eq_getElem hkL]; exact List.getElem_mem _
            have HCO := hide (wcost_snoc L j hkL)
            rw [Nat.add_zero] at c0
            generalize L.getD j wm0 = s at *
            obtain ⟨w5, hw5⟩ : ∃ w5, w5 = wr.alloc (.cells #[.bool s.x.cut, .int .i64 s.x.at_, .slice s.da s.dn s.dc] 25) := ⟨_, rfl⟩
            have hk5 : Kept [] wr w5 := by rw [hw5]; exact (Kept.refl [] wr).alloc _
            have hb5 : w5.heap[wr.heap.size]? = some (.cells #[.bool s.x.cut, .int .i64 s.x.at_, .slice s.da s.dn s.dc] 25 (0, 0)) := by rw [hw5]; exact (MapKept.heap_alloc wr _).1
            have i0 : w5.cell? ⟨wr.heap.size, 0, none⟩ = some (.bool s.x.cut) := by rw [cell_of_row w5 _ 0 _ _ _ hb5]; rfl
            have i1 : w5.cell? ⟨wr.heap.size, 1, none⟩ = some (.int .i64 s.x.at_) := by rw [cell_of_row w5 _ 1 _ _ _ hb5]; rfl
            have i2 : w5.cell? ⟨wr.heap.size, 2, none⟩ = some (.slice s.da s.dn s.dc) := by rw [cell_of_row w5 _ 2 _ _ _ hb5]; rfl
            have T5 := hide (hTs.kept hk5)
            have hin5 := (hin.kept hTs.old).kept hk5
            go_upto_region 22 with (fail)
            rw [← hw5]
            clear hw5 c0 c1 c2
            have hx5 := hTs.ax.more hk5
            have hqX : More (fun b => b < w.heap.size ∨ (Value.slice vo dl vk).ownBlock = some b) wr w5 wr.heap.size := .inr ⟨Nat.le_refl _, (Array.getElem?_eq_some_iff.1 hb5).1⟩
            have hsX : ∀ b, (b < w.heap.size ∨ (Value.slice vo dl vk).ownBlock = some b) → More (fun b => b < w.heap.size ∨ (Value.slice vo dl vk).ownBlock = some b) wr w5 b := fun b hb => .inl hb
            generalize More (fun b => b < w.heap.size ∨ (Value.slice vo dl vk).ownBlock = some b) wr w5 = X at hx5 hqX hsX
            have hdn2 : s.dn ≤ 100000 := by
              have h1 := HCO.out
              have h2 : wcost (L.take (j + 1)) ≤ wcost L := by
                have e2 := wcost_app (L.take (j + 1)) (L.drop (j + 1))
                rw [List.take_append_drop] at e2
                omega
              have h3 := HWE.out
              omega
            have hwj : wcost (L.take j) ≤ 100000 := by
              have e2 := wcost_app (L.take j) (L.drop j)
              rw [List.take_append_drop] at e2
              have h3 := HWE.out
              omega
            have FIN : Hid (∀ w9 S9 N9, Ax X w5 w9 p S9 N9 → N9 ≤ n + 10 + wcost (L.take j) + 4 * j + s.dn + 4 → Tos w w9 p S9 (n + 10 + wcost (L.take (j + 1)) + 4 * (j + 1)) (.slice vo dl vk) D ∧ w9.cell? ⟨wr.heap.size, 0, none⟩ = some (.bool s.x.cut) ∧ w9.cell? ⟨wr.heap.size, 1, none⟩ = some (.int .i64 s.x.at_) ∧ w9.cell? ⟨wr.heap.size, 2, none⟩ = some (.slice s.da s.dn s.dc)) := hide (fun w9 S9 N9 hx hN9 => by
              have hk := hx.old
              refine ⟨((T5.out).next (hx.sub hsX)).mono (by have := HCO.out; omega), hk.cellOf i0 (fun h => h hqX), hk.cellOf i1 (fun h => h hqX), hk.cellOf i2 (fun h => h hqX)⟩)
            by_cases hfit : 0 ≤ s.x.at_ ∧ s.x.at_ ≤ (Z : Int)
            · have hf1 := hfit.1
              have hf2 := hfit.2
              go_upto_if 120 with (fail)
              go_cut [20] from 100 to 191 (fun fv wx => fv = .int .i64 (Wt.do S s.x).1 ∧ Hid (Tos w wx p (Wt.do S s.x).2 (n + 10 + wcost (L.take (j + 1)) + 4 * (j + 1)) (.slice vo dl vk) D ∧ wx.cell? ⟨wr.heap.size, 0, none⟩ = some (.bool s.x.cut) ∧ wx.cell? ⟨wr.heap.size, 1, none⟩ = some (.int .i64 s.x.at_) ∧ wx.cell? ⟨wr.heap.size, 2, none⟩ = some (.slice s.da s.dn s.dc)))
              case first =>
                by_cases hcut : s.x.cut = true
                · have hdo : Wt.do S s.x = S.truncate [102] s.x.at_ := by simp [Wt.do, hcut]
                  have htr := truncate_ax hx5 (by omega) [102] (by decide) s.x.at_
                  rw [← hdo] at htr
                  rw [hcut] at i0 ⊢
                  clear hin5 hdo
                  as_aux_lemma =>
                    go_wp2_with (go_at_call 10; refine htr.mono ?_; rintro e w9 ⟨rfl, hx9⟩; have H9 := hide (FIN.out w9 _ _ hx9 (by omega)); clear htr hx9)
                    go_meet
                    case rel => exact ⟨rfl, H9⟩
                · simp only [Bool.not_eq_true] at hcut
                  have hdo : Wt.do S s.x = S.writeAt [102] s.x.at_ s.x.data := by simp [Wt.do, hcut]
                  rw [hcut] at i0 ⊢
                  go_upto_region 25 with (fail)
                  generalize hqe : wr.heap.size = q at *
                  have hv0 : Kept [] w5 w5.drew := (Kept.refl [] w5).drew
                  refine wp_region_held_drew (S := fun v => v.cell? ⟨q, 1, none⟩ = some (.int .i64 s.x.at_) ∧ v.cell? ⟨q, 2, none⟩ = some (.slice s.da s.dn s.dc)) (by kernel_rfl) ⟨hv0.cellOf i1 (by simp), hv0.cellOf i2 (by simp)⟩ (fun h0 => ?_)
                  generalize World.drew w5 = v0 at h0 hv0 ⊢
                  refine wpAnyH_take (i := 0) (v := (.pointer (some ⟨p, 0, none⟩))) rfl (by kernel_rfl) (by kernel_rfl) (by kernel_rfl) (fun _ _ _ h => h) (Or.inl ⟨by rfl, fun w hSw => by go_simp⟩) h0 ?_
                  try simp only [List.getElem_toArray, List.getElem_cons_zero, List.getElem_cons_succ, Act.put, List.setIfInBounds_toArray, List.set_cons_zero, List.set_cons_succ]
                  refine wpAnyH_take (i := 1) (v := (.pointer (some ⟨q, 1, none⟩))) rfl (by kernel_rfl) (by kernel_rfl) (by kernel_rfl) (fun _ _ _ h => h) (Or.inl ⟨by rfl, fun w hSw => by go_simp⟩) h0 ?_
                  try simp only [List.getElem_toArray, List.getElem_cons_zero, List.getElem_cons_succ, Act.put, List.setIfInBounds_toArray, List.set_cons_zero, List.set_cons_succ]
                  refine wpAnyH_take (i := 2) (v := (.int .i64 s.x.at_)) rfl (by kernel_rfl) (by kernel_rfl) (by kernel_rfl) (fun _ _ _ h => h) (Or.inl ⟨by rfl, fun w hSw => by have c := hSw.1; go_simp⟩) h0 ?_
                  try simp only [List.getElem_toArray, List.getElem_cons_zero, List.getElem_cons_succ, Act.put, List.setIfInBounds_toArray, List.set_cons_zero, List.set_cons_succ]
                  refine wpAnyH_take (i := 4) (v := (.pointer (some ⟨q, 2, none⟩))) rfl (by kernel_rfl) (by kernel_rfl) (by kernel_rfl) (fun _ _ _ h => h) (Or.inl ⟨by rfl, fun w hSw => by go_simp⟩) h0 ?_
                  try simp only [List.getElem_toArray, List.getElem_cons_zero, List.getElem_cons_succ, Act.put, List.setIfInBounds_toArray, List.set_cons_zero, List.set_cons_succ]
                  refine wpAnyH_take (i := 5) (v := (.slice s.da s.dn s.dc)) rfl (by kernel_rfl) (by kernel_rfl) (by kernel_rfl) (fun _ _ _ h => h) (Or.inl ⟨by rfl, fun w hSw => by have c := hSw.2; go_simp⟩) h0 ?_
                  try simp only [List.getElem_toArray, List.getElem_cons_zero, List.getElem_cons_succ, Act.put, List.setIfInBounds_toArray, List.set_cons_zero, List.set_cons_succ]
                  refine wpAnyH_ready (rs := [3]) (by kernel_rfl) (by simp) (AllReadyH.cons (i := 3) rfl (fun K hK => ?_) AllReadyH.nil)
                  rw [if_pos (by rfl)]
                  go_simp
                  obtain ⟨g, c', w6, hap, hsl, hk6, hg6⟩ := fresh_bytes v0 22 s.da s.dn s.dc s.x.data hin5.inb.len (hin5.inb.sl.keep (Keep.ofNone (F := fun _ => False) hv0) (fun _ _ _ h => h)) (fun e => ⟨by have h1 := (hin5.inb.nil e).1; have h2 := hin5.inb.len; rw [h1] at h2; exact h2.symm, (hin5.inb.nil e).2⟩) (by omega)
                  have hka : Kept [] v0 (v0.alloc (.cells #[] 5)) := (Kept.refl [] v0).alloc _
                  refine hK.out _ _ ⟨hka.cellOf h0.1 (by simp), hka.cellOf h0.2 (by simp)⟩ (fun h1 => ?_)
                  clear hK K hka
                  try simp only [List.getElem_toArray, List.getElem_cons_zero, List.getElem_cons_succ, Act.put, List.setIfInBounds_toArray, List.set_cons_zero, List.set_cons_succ]
                  refine wpAnyH_ready (rs := [6]) (by kernel_rfl) (by simp) (AllReadyH.cons (i := 6) rfl (fun K hK => ?_) AllReadyH.nil)
                  rw [if_pos (by rfl)]
                  refine wp_append_run _ _ 22 22 rfl _ _ rfl rfl _ _ hap ?_
                  have h6 : Kept [] w5 w6 := hv0.trans hk6 (by simp)
                  refine hK.out _ _ ⟨hk6.cellOf h0.1 (by simp), hk6.cellOf h0.2 (by simp)⟩ (fun h7 => ?_)
                  clear hK K hap
                  try simp only [List.getElem_toArray, List.getElem_cons_zero, List.getElem_cons_succ, Act.put, List.setIfInBounds_toArray, List.set_cons_zero, List.set_cons_succ]
                  have hwa := writeAt_ax hx5 h6 (n := s.dn) (c := c') (d := s.x.data) (by omega) [102] (by decide) s.x.at_ hin5.inb.len hsl (by simp) (fun _ a ha => by cases ha; exact .inl (Nat.le_trans hv0.size hg6))
                  rw [← hdo] at hwa
                  clear hdo
                  refine wpAnyH_ready (rs := [7]) (by kernel_rfl) (by simp) (AllReadyH.cons (i := 7) rfl (fun K hK => ?_) AllReadyH.nil)
                  rw [if_pos (by rfl)]
                  go_simp
                  refine hwa.mono ?_
                  rintro e w9 ⟨rfl, hx9⟩
                  have hfn := FIN.out w9 _ _ hx9 (by omega)
                  have H9 := hide hfn
                  refine hK.out _ _ ⟨hfn.2.2.1, hfn.2.2.2⟩ (fun h9 => ?_)
                  clear hK K hwa hx9 hfn h7 h1 h0
                  try simp only [List.getElem_toArray, List.getElem_cons_zero, List.getElem_cons_succ, Act.put, List.setIfInBounds_toArray, List.set_cons_zero, List.set_cons_succ]
                  refine wpAnyH_take (i := 8) (v := (.int .i64 (Wt.do S s.x).1)) rfl (by kernel_rfl) (by kernel_rfl) (by kernel_rfl) (fun _ _ _ h => h) (Or.inl ⟨by rfl, fun w hSw => by go_simp⟩) h9 ?_
                  try simp only [List.getElem_toArray, List.getElem_cons_zero, List.getElem_cons_succ, Act.put, List.setIfInBounds_toArray, List.set_cons_zero, List.set_cons_succ]
                  refine wpAnyH_done (by kernel_rfl) ?_ _
                  clear h9 hsl hk6 hg6 h6 hv0 hx5
                  go_wp2
                  go_meet
                  case rel => exact ⟨rfl, H9⟩
              case rest =>
                obtain ⟨rfl, H9⟩ := hcut
                obtain ⟨hT9, e0, e1, e2⟩ := H9.out
                clear H9 FIN hx5 hqX hsX T5
                obtain ⟨a, ha⟩ := Int.eq_ofNat_of_zero_le hf1
                have hst := hTo.step hon s.x (by rw [hZe]; have h1 := hin5.inb.len; omega) (by rw [hZe]; exact hfit)
                have haZ : a ≤ Z := by omega
                obtain ⟨dm1, dm2⟩ := done_more hUe hZe ha haZ hin5.inb.len
                have hdvq : (Value.slice vo dl vk).ownBlock ≠ some wr.heap.size := fun e => by have := (hTs.row.lt _ e).2; omega
                obtain ⟨g, c, w11, hap, hT11, hk11, hK11⟩ := hT9.push hDl (by omega) s
                have hKq := hK11 (fun b => (Value.slice vo dl vk).ownBlock = some b) (fun _ e => e)
                have y0 := hKq.cellOf e0 hdvq
                have y1 := hKq.cellOf e1 hdvq
                have y2 := hKq.cellOf e2 hdvq
                rw [ha] at hap e1 y1
                have hchm : To (Wt.do S s.x).2 xs ((D ++ [s]).map (fun s => s.x.ch)) := by rw [List.map_append]; exact hst.2.1
                have HNX := hide (And.intro hchm (And.intro dm1 (And.intro dm2 hT11)))
                have hlD : ∀ z ∈ D ++ [s], z ∈ L ∧ 0 ≤ z.x.at_ := fun z hz => by
                  rcases List.mem_append.1 hz with h | h
                  · exact hDL z h
                  · rw [List.mem_singleton.1 h]; exact ⟨hsL, hf1⟩
                have HLD := hide hlD
                have hUw2 := HCO.out
                have hwj2 : wcost (L.take (j + 1)) ≤ 100000 := by
                  have e2 := wcost_app (L.take (j + 1)) (L.drop (j + 1))
                  rw [List.take_append_drop] at e2
                  have h3 := HWE.out
                  omega
                have hZU : Z ≤ n + U := by
                  have h1 := runs_len xs (D.map (fun s => s.x.ch)) (by have := (hTs.ax.wf.th 0 (by rw [hTo.nx]; decide)).1; rw [hTo.th] at this; exact this)
                  have h2 := HB.out.len
                  omega
                have HOF := hide (off_ax hT9.ax)
                clear hT9 hTs hT11 hK11 hKq hk11 hlD hchm dm1 dm2
                by_cases hg : S.goesOff = true
                · rw [hst.1, if_pos hg]
                  have hon3 : (Wt.do S s.x).2.on = false := by rw [hst.2.2, hg]; rfl
                  rw [hon3] at HOF
                  simp only [Bool.not_false] at HOF
                  clear hst hon
                  by_cases hcut2 : s.x.cut = true
                  · rw [hcut2] at HNX e0 y0 hap
                    simp only [if_true] at HNX
                    as_aux_lemma =>
                      go_wp2_with (first
                        | (go_at_call 12; refine HOF.out.mono ?_; rintro e wo ⟨rfl, rfl⟩)
                        | (at_builtin; refine wpList_app_run rfl _ _ 23 23 rfl _ _ rfl rfl _ _ hap ?_; clear hap))
                      go_meet
                      case rel => exact ⟨some ⟨g, 0, none⟩, dl + 1, c, U + 1, rfl, by go_num, by omega, by omega, hide ⟨_, D ++ [s], a, by omega, by have h1 := (HNX.out.2.2.2.ax.wf.th 0 (by rw [HNX.out.1.nx]; decide)).1; rw [HNX.out.1.th] at h1; exact h1, HNX.out.2.1, HNX.out.2.2.1, HNX.out.1, by simp [hDl], HLD.out, HNX.out.2.2.2.mono (by omega)⟩⟩
                  · simp only [Bool.not_eq_true] at hcut2
                    rw [hcut2] at HNX e0 y0 hap
                    simp only [Bool.false_eq_true, if_false] at HNX
                    by_cases hgr : Z < a + s.dn
                    · have hgr2 : (Z : Int) < (a : Int) + (s.dn : Int) := by omega
                      have hmx : max Z (a + s.dn) = a + s.dn := by omega
                      rw [hmx] at HNX
                      as_aux_lemma =>
                        go_wp2_with (first
                          | (go_at_call 12; refine HOF.out.mono ?_; rintro e wo ⟨rfl, rfl⟩)
                          | (at_builtin; refine wpList_app_run rfl _ _ 23 23 rfl _ _ rfl rfl _ _ hap ?_; clear hap))
                        go_meet
                        case rel => exact ⟨some ⟨g, 0, none⟩, dl + 1, c, U + s.dn, rfl, by go_num, by omega, by omega, hide ⟨_, D ++ [s], a + s.dn, by omega, by have h1 := (HNX.out.2.2.2.ax.wf.th 0 (by rw [HNX.out.1.nx]; decide)).1; rw [HNX.out.1.th] at h1; exact h1, HNX.out.2.1, HNX.out.2.2.1, HNX.out.1, by simp [hDl], HLD.out, HNX.out.2.2.2.mono (by omega)⟩⟩
                    · have hgr2 : ¬ (Z : Int) < (a : Int) + (s.dn : Int) := by omega
                      have hmx : max Z (a + s.dn) = Z := by omega
                      rw [hmx] at HNX
                      as_aux_lemma =>
                        go_wp2_with (first
                          | (go_at_call 12; refine HOF.out.mono ?_; rintro e wo ⟨rfl, rfl⟩)
                          | (at_builtin; refine wpList_app_run rfl _ _ 23 23 rfl _ _ rfl rfl _ _ hap ?_; clear hap))
                        go_meet
                        case rel => exact ⟨some ⟨g, 0, none⟩, dl + 1, c, U + s.dn, rfl, by go_num, by omega, by omega, hide ⟨_, D ++ [s], Z, by omega, by have h1 := (HNX.out.2.2.2.ax.wf.th 0 (by rw [HNX.out.1.nx]; decide)).1; rw [HNX.out.1.th] at h1; exact h1, HNX.out.2.1, HNX.out.2.2.1, HNX.out.1, by simp [hDl], HLD.out, HNX.out.2.2.2.mono (by omega)⟩⟩
                · simp only [Bool.not_eq_true] at hg
                  have hz0 : (Wt.do S s.x).1 = 0 := by rw [hst.1, hg]; rfl
                  have hon2 : (Wt.do S s.x).2.on = true := by rw [hst.2.2, hg]; rfl
                  rw [hz0]
                  clear hst
                  by_cases hcut2 : s.x.cut = true
                  · rw [hcut2] at HNX e0 y0 hap
                    simp only [if_true] at HNX
                    as_aux_lemma =>
                      go_wp2_with (at_builtin; refine wpList_app_run rfl _ _ 23 23 rfl _ _ rfl rfl _ _ hap ?_; clear hap)
                      refine ⟨⟨j + 1, by omega, by go_num, some ⟨g, 0, none⟩, dl + 1, c, U + 1, a, rfl, by go_num, by first | rfl | rw [ha], by omega, by omega, by omega, hide ⟨_, D ++ [s], HNX.out.1, hon2, by simp [hDl], HLD.out, HNX.out.2.1, HNX.out.2.2.1, by omega, HNX.out.2.2.2⟩⟩, by simp [intOf]; omega⟩
                  · simp only [Bool.not_eq_true] at hcut2
                    rw [hcut2] at HNX e0 y0 hap
                    simp only [Bool.false_eq_true, if_false] at HNX
                    by_cases hgr : Z < a + s.dn
                    · have hgr2 : (Z : Int) < (a : Int) + (s.dn : Int) := by omega
                      have hmx : max Z (a + s.dn) = a + s.dn := by omega
                      rw [hmx] at HNX
                      as_aux_lemma =>
                        go_wp2_with (at_builtin; refine wpList_app_run rfl _ _ 23 23 rfl _ _ rfl rfl _ _ hap ?_; clear hap)
                        refine ⟨⟨j + 1, by omega, by go_num, some ⟨g, 0, none⟩, dl + 1, c, U + s.dn, a + s.dn, rfl, by go_num, by first | go_num | (rw [ha]; go_num), by omega, by omega, by omega, hide ⟨_, D ++ [s], HNX.out.1, hon2, by simp [hDl], HLD.out, HNX.out.2.1, HNX.out.2.2.1, by omega, HNX.out.2.2.2⟩⟩, by simp [intOf]; omega⟩
                    · have hgr2 : ¬ (Z : Int) < (a : Int) + (s.dn : Int) := by omega
                      have hmx : max Z (a + s.dn) = Z := by omega
                      rw [hmx] at HNX
                      as_aux_lemma =>
                        go_wp2_with (at_builtin; refine wpList_app_run rfl _ _ 23 23 rfl _ _ rfl rfl _ _ hap ?_; clear hap)
                        refine ⟨⟨j + 1, by omega, by go_num, some ⟨g, 0, none⟩, dl + 1, c, U + s.dn, Z, rfl, by go_num, rfl, by omega, by omega, by omega, hide ⟨_, D ++ [s], HNX.out.1, hon2, by simp [hDl], HLD.out, HNX.out.2.1, HNX.out.2.2.1, by omega, HNX.out.2.2.2⟩⟩, by simp [intOf]; omega⟩
            · have hnot : ¬ (0 ≤ s.x.at_ ∧ s.x.at_ ≤ ((runs xs (D.map (fun s => s.x.ch))).length : Int)) := by rw [hZe]; exact hfit
              have hms := hTo.miss hon s.x hnot
              have HMS := hide hms
              clear hnot hms
              by_cases hf1 : 0 ≤ s.x.at_
              · have hf2 : ¬ s.x.at_ ≤ (Z : Int) := fun h => hfit ⟨hf1, h⟩
                clear hfit
                go_upto_if 120 with (fail)
                go_cut [20] from 100 to 191 (fun fv wx => fv = .int .i64 (Wt.do S s.x).1 ∧ Hid (Tos w wx p (Wt.do S s.x).2 (n + 10 + wcost (L.take (j + 1)) + 4 * (j + 1)) (.slice vo dl vk) D ∧ wx.cell? ⟨wr.heap.size, 0, none⟩ = some (.bool s.x.cut) ∧ wx.cell? ⟨wr.heap.size, 1, none⟩ = some (.int .i64 s.x.at_) ∧ wx.cell? ⟨wr.heap.size, 2, none⟩ = some (.slice s.da s.dn s.dc)))
                case first =>
                  by_cases hcut : s.x.cut = true
                  · have hdo : Wt.do S s.x = S.truncate [102] s.x.at_ := by simp [Wt.do, hcut]
                    have htr := truncate_ax hx5 (by omega) [102] (by decide) s.x.at_
                    rw [← hdo] at htr
                    rw [hcut] at i0 ⊢
                    clear hin5 hdo
                    as_aux_lemma =>
                      go_wp2_with (go_at_call 10; refine htr.mono ?_; rintro e w9 ⟨rfl, hx9⟩; have H9 := hide (FIN.out w9 _ _ hx9 (by omega)); clear htr hx9)
                      go_meet
                      case rel => exact ⟨rfl, H9⟩
                  · simp only [Bool.not_eq_true] at hcut
                    have hdo : Wt.do S s.x = S.writeAt [102] s.x.at_ s.x.data := by simp [Wt.do, hcut]
                    rw [hcut] at i0 ⊢
                    go_upto_region 25 with (fail)
                    generalize hqe : wr.heap.size = q at *
                    have hv0 : Kept [] w5 w5.drew := (Kept.refl [] w5).drew
                    refine wp_region_held_drew (S := fun v => v.cell? ⟨q, 1, none⟩ = some (.int .i64 s.x.at_) ∧ v.cell? ⟨q, 2, none⟩ = some (.slice s.da s.dn s.dc)) (by kernel_rfl) ⟨hv0.cellOf i1 (by simp), hv0.cellOf i2 (by simp)⟩ (fun h0 => ?_)
                    generalize World.drew w5 = v0 at h0 hv0 ⊢
                    refine wpAnyH_take (i := 0) (v := (.pointer (some ⟨p, 0, none⟩))) rfl (by kernel_rfl) (by kernel_rfl) (by kernel_rfl) (fun _ _ _ h => h) (Or.inl ⟨by rfl, fun w hSw => by go_simp⟩) h0 ?_
                    try simp only [List.getElem_toArray, List.getElem_cons_zero, List.getElem_cons_succ, Act.put, List.setIfInBounds_toArray, List.set_cons_zero, List.set_cons_succ]
                    refine wpAnyH_take (i := 1) (v := (.pointer (some ⟨q, 1, none⟩))) rfl (by kernel_rfl) (by kernel_rfl) (by kernel_rfl) (fun _ _ _ h => h) (Or.inl ⟨by rfl, fun w hSw => by go_simp⟩) h0 ?_
                    try simp only [List.getElem_toArray, List.getElem_cons_zero, List.getElem_cons_succ, Act.put, List.setIfInBounds_toArray, List.set_cons_zero, List.set_cons_succ]
                    refine wpAnyH_take (i := 2) (v := (.int .i64 s.x.at_)) rfl (by kernel_rfl) (by kernel_rfl) (by kernel_rfl) (fun _ _ _ h => h) (Or.inl ⟨by rfl, fun w hSw => by have c := hSw.1; go_simp⟩) h0 ?_
                    try simp only [List.getElem_toArray, List.getElem_cons_zero, List.getElem_cons_succ, Act.put, List.setIfInBounds_toArray, List.set_cons_zero, List.set_cons_succ]
                    refine wpAnyH_take (i := 4) (v := (.pointer (some ⟨q, 2, none⟩))) rfl (by kernel_rfl) (by kernel_rfl) (by kernel_rfl) (fun _ _ _ h => h) (Or.inl ⟨by rfl, fun w hSw => by go_simp⟩) h0 ?_
                    try simp only [List.getElem_toArray, List.getElem_cons_zero, List.getElem_cons_succ, Act.put, List.setIfInBounds_toArray, List.set_cons_zero, List.set_cons_succ]
                    refine wpAnyH_take (i := 5) (v := (.slice s.da s.dn s.dc)) rfl (by kernel_rfl) (by kernel_rfl) (by kernel_rfl) (fun _ _ _ h => h) (Or.inl ⟨by rfl, fun w hSw => by have c := hSw.2; go_simp⟩) h0 ?_
                    try simp only [List.getElem_toArray, List.getElem_cons_zero, List.getElem_cons_succ, Act.put, List.setIfInBounds_toArray, List.set_cons_zero, List.set_cons_succ]
                    refine wpAnyH_ready (rs := [3]) (by kernel_rfl) (by simp) (AllReadyH.cons (i := 3) rfl (fun K hK => ?_) AllReadyH.nil)
                    rw [if_pos (by rfl)]
                    go_simp
                    obtain ⟨g, c', w6, hap, hsl, hk6, hg6⟩ := fresh_bytes v0 22 s.da s.dn s.dc s.x.data hin5.inb.len (hin5.inb.sl.keep (Keep.ofNone (F := fun _ => False) hv0) (fun _ _ _ h => h)) (fun e => ⟨by have h1 := (hin5.inb.nil e).1; have h2 := hin5.inb.len; rw [h1] at h2; exact h2.symm, (hin5.inb.nil e).2⟩) (by omega)
                    have hka : Kept [] v0 (v0.alloc (.cells #[] 5)) := (Kept.refl [] v0).alloc _
                    refine hK.out _ _ ⟨hka.cellOf h0.1 (by simp), hka.cellOf h0.2 (by simp)⟩ (fun h1 => ?_)
                    clear hK K hka
                    try simp only [List.getElem_toArray, List.getElem_cons_zero, List.getElem_cons_succ, Act.put, List.setIfInBounds_toArray, List.set_cons_zero, List.set_cons_succ]
                    refine wpAnyH_ready (rs := [6]) (by kernel_rfl) (by simp) (AllReadyH.cons (i := 6) rfl (fun K hK => ?_) AllReadyH.nil)
                    rw [if_pos (by rfl)]
                    refine wp_append_run _ _ 22 22 rfl _ _ rfl rfl _ _ hap ?_
                    have h6 : Kept [] w5 w6 := hv0.trans hk6 (by simp)
                    refine hK.out _ _ ⟨hk6.cellOf h0.1 (by simp), hk6.cellOf h0.2 (by simp)⟩ (fun h7 => ?_)
                    clear hK K hap
                    try simp only [List.getElem_toArray, List.getElem_cons_zero, List.getElem_cons_succ, Act.put, List.setIfInBounds_toArray, List.set_cons_zero, List.set_cons_succ]
                    have hwa := writeAt_ax hx5 h6 (n := s.dn) (c := c') (d := s.x.data) (by omega) [102] (by decide) s.x.at_ hin5.inb.len hsl (by simp) (fun _ a ha => by cases ha; exact .inl (Nat.le_trans hv0.size hg6))
                    rw [← hdo] at hwa
                    clear hdo
                    refine wpAnyH_ready (rs := [7]) (by kernel_rfl) (by simp) (AllReadyH.cons (i := 7) rfl (fun K hK => ?_) AllReadyH.nil)
                    rw [if_pos (by rfl)]
                    go_simp
                    refine hwa.mono ?_
                    rintro e w9 ⟨rfl, hx9⟩
                    have hfn := FIN.out w9 _ _ hx9 (by omega)
                    have H9 := hide hfn
                    refine hK.out _ _ ⟨hfn.2.2.1, hfn.2.2.2⟩ (fun h9 => ?_)
                    clear hK K hwa hx9 hfn h7 h1 h0
                    try simp only [List.getElem_toArray, List.getElem_cons_zero, List.getElem_cons_succ, Act.put, List.setIfInBounds_toArray, List.set_cons_zero, List.set_cons_succ]
                    refine wpAnyH_take (i := 8) (v := (.int .i64 (Wt.do S s.x).1)) rfl (by kernel_rfl) (by kernel_rfl) (by kernel_rfl) (fun _ _ _ h => h) (Or.inl ⟨by rfl, fun w hSw => by go_simp⟩) h9 ?_
                    try simp only [List.getElem_toArray, List.getElem_cons_zero, List.getElem_cons_succ, Act.put, List.setIfInBounds_toArray, List.set_cons_zero, List.set_cons_succ]
                    refine wpAnyH_done (by kernel_rfl) ?_ _
                    clear h9 hsl hk6 hg6 h6 hv0 hx5
                    go_wp2
                    go_meet
                    case rel => exact ⟨rfl, H9⟩
                case rest =>
                  obtain ⟨rfl, H9⟩ := hcut
                  rw [HMS.out] at H9
                  rw [HMS.out]
                  have hUw2 := HCO.out
                  clear FIN hx5 hqX hsX T5 hTs hin5
                  as_aux_lemma =>
                    go_wp2
                    refine ⟨⟨j + 1, by omega, by go_num, vo, dl, vk, U, Z, rfl, rfl, rfl, by omega, hU, hZ, hide ⟨S, D, hTo, hon, hDl, hDL, hUe, hZe, by omega, H9.out.1⟩⟩, by simp [intOf]; omega⟩
              · have hf2 : ¬ 0 ≤ s.x.at_ := hf1
                clear hfit
                go_upto_if 120 with (fail)
                go_cut [20] from 100 to 191 (fun fv wx => fv = .int .i64 (Wt.do S s.x).1 ∧ Hid (Tos w wx p (Wt.do S s.x).2 (n + 10 + wcost (L.take (j + 1)) + 4 * (j + 1)) (.slice vo dl vk) D ∧ wx.cell? ⟨wr.heap.size, 0, none⟩ = some (.bool s.x.cut) ∧ wx.cell? ⟨wr.heap.size, 1, none⟩ = some (.int .i64 s.x.at_) ∧ wx.cell? ⟨wr.heap.size, 2, none⟩ = some (.slice s.da s.dn s.dc)))
                case first =>
                  by_cases hcut : s.x.cut = true
                  · have hdo : Wt.do S s.x = S.truncate [102] s.x.at_ := by simp [Wt.do, hcut]
                    have htr := truncate_ax hx5 (by omega) [102] (by decide) s.x.at_
                    rw [← hdo] at htr
                    rw [hcut] at i0 ⊢
                    clear hin5 hdo
                    as_aux_lemma =>
                      go_wp2_with (go_at_call 10; refine htr.mono ?_; rintro e w9 ⟨rfl, hx9⟩; have H9 := hide (FIN.out w9 _ _ hx9 (by omega)); clear htr hx9)
                      go_meet
                      case rel => exact ⟨rfl, H9⟩
                  · simp only [Bool.not_eq_true] at hcut
                    have hdo : Wt.do S s.x = S.writeAt [102] s.x.at_ s.x.data := by simp [Wt.do, hcut]
                    rw [hcut] at i0 ⊢
                    go_upto_region 25 with (fail)
                    generalize hqe : wr.heap.size = q at *
                    have hv0 : Kept [] w5 w5.drew := (Kept.refl [] w5).drew
                    refine wp_region_held_drew (S := fun v => v.cell? ⟨q, 1, none⟩ = some (.int .i64 s.x.at_) ∧ v.cell? ⟨q, 2, none⟩ = some (.slice s.da s.dn s.dc)) (by kernel_rfl) ⟨hv0.cellOf i1 (by simp), hv0.cellOf i2 (by simp)⟩ (fun h0 => ?_)
                    generalize World.drew w5 = v0 at h0 hv0 ⊢
                    refine wpAnyH_take (i := 0) (v := (.pointer (some ⟨p, 0, none⟩))) rfl (by kernel_rfl) (by kernel_rfl) (by kernel_rfl) (fun _ _ _ h => h) (Or.inl ⟨by rfl, fun w hSw => by go_simp⟩) h0 ?_
                    try simp only [List.getElem_toArray, List.getElem_cons_zero, List.getElem_cons_succ, Act.put, List.setIfInBounds_toArray, List.set_cons_zero, List.set_cons_succ]
                    refine wpAnyH_take (i := 1) (v := (.pointer (some ⟨q, 1, none⟩))) rfl (by kernel_rfl) (by kernel_rfl) (by kernel_rfl) (fun _ _ _ h => h) (Or.inl ⟨by rfl, fun w hSw => by go_simp⟩) h0 ?_
                    try simp only [List.getElem_toArray, List.getElem_cons_zero, List.getElem_cons_succ, Act.put, List.setIfInBounds_toArray, List.set_cons_zero, List.set_cons_succ]
                    refine wpAnyH_take (i := 2) (v := (.int .i64 s.x.at_)) rfl (by kernel_rfl) (by kernel_rfl) (by kernel_rfl) (fun _ _ _ h => h) (Or.inl ⟨by rfl, fun w hSw => by have c := hSw.1; go_simp⟩) h0 ?_
                    try simp only [List.getElem_toArray, List.getElem_cons_zero, List.getElem_cons_succ, Act.put, List.setIfInBounds_toArray, List.set_cons_zero, List.set_cons_succ]
                    refine wpAnyH_take (i := 4) (v := (.pointer (some ⟨q, 2, none⟩))) rfl (by kernel_rfl) (by kernel_rfl) (by kernel_rfl) (fun _ _ _ h => h) (Or.inl ⟨by rfl, fun w hSw => by go_simp⟩) h0 ?_
                    try simp only [List.getElem_toArray, List.getElem_cons_zero, List.getElem_cons_succ, Act.put, List.setIfInBounds_toArray, List.set_cons_zero, List.set_cons_succ]
                    refine wpAnyH_take (i := 5) (v := (.slice s.da s.dn s.dc)) rfl (by kernel_rfl) (by kernel_rfl) (by kernel_rfl) (fun _ _ _ h => h) (Or.inl ⟨by rfl, fun w hSw => by have c := hSw.2; go_simp⟩) h0 ?_
                    try simp only [List.getElem_toArray, List.getElem_cons_zero, List.getElem_cons_succ, Act.put, List.setIfInBounds_toArray, List.set_cons_zero, List.set_cons_succ]
                    refine wpAnyH_ready (rs := [3]) (by kernel_rfl) (by simp) (AllReadyH.cons (i := 3) rfl (fun K hK => ?_) AllReadyH.nil)
                    rw [if_pos (by rfl)]
                    go_simp
                    obtain ⟨g, c', w6, hap, hsl, hk6, hg6⟩ := fresh_bytes v0 22 s.da s.dn s.dc s.x.data hin5.inb.len (hin5.inb.sl.keep (Keep.ofNone (F := fun _ => False) hv0) (fun _ _ _ h => h)) (fun e => ⟨by have h1 := (hin5.inb.nil e).1; have h2 := hin5.inb.len; rw [h1] at h2; exact h2.symm, (hin5.inb.nil e).2⟩) (by omega)
                    have hka : Kept [] v0 (v0.alloc (.cells #[] 5)) := (Kept.refl [] v0).alloc _
                    refine hK.out _ _ ⟨hka.cellOf h0.1 (by simp), hka.cellOf h0.2 (by simp)⟩ (fun h1 => ?_)
                    clear hK K hka
                    try simp only [List.getElem_toArray, List.getElem_cons_zero, List.getElem_cons_succ, Act.put, List.setIfInBounds_toArray, List.set_cons_zero, List.set_cons_succ]
                    refine wpAnyH_ready (rs := [6]) (by kernel_rfl) (by simp) (AllReadyH.cons (i := 6) rfl (fun K hK => ?_) AllReadyH.nil)
                    rw [if_pos (by rfl)]
                    refine wp_append_run _ _ 22 22 rfl _ _ rfl rfl _ _ hap ?_
                    have h6 : Kept [] w5 w6 := hv0.trans hk6 (by simp)
                    refine hK.out _ _ ⟨hk6.cellOf h0.1 (by simp), hk6.cellOf h0.2 (by simp)⟩ (fun h7 => ?_)
                    clear hK K hap
                    try simp only [List.getElem_toArray, List.getElem_cons_zero, List.getElem_cons_succ, Act.put, List.setIfInBounds_toArray, List.set_cons_zero, List.set_cons_succ]
                    have hwa := writeAt_ax hx5 h6 (n := s.dn) (c := c') (d := s.x.data) (by omega) [102] (by decide) s.x.at_ hin5.inb.len hsl (by simp) (fun _ a ha => by cases ha; exact .inl (Nat.le_trans hv0.size hg6))
                    rw [← hdo] at hwa
                    clear hdo
                    refine wpAnyH_ready (rs := [7]) (by kernel_rfl) (by simp) (AllReadyH.cons (i := 7) rfl (fun K hK => ?_) AllReadyH.nil)
                    rw [if_pos (by rfl)]
                    go_simp
                    refine hwa.mono ?_
                    rintro e w9 ⟨rfl, hx9⟩
                    have hfn := FIN.out w9 _ _ hx9 (by omega)
                    have H9 := hide hfn
                    refine hK.out _ _ ⟨hfn.2.2.1, hfn.2.2.2⟩ (fun h9 => ?_)
                    clear hK K hwa hx9 hfn h7 h1 h0
                    try simp only [List.getElem_toArray, List.getElem_cons_zero, List.getElem_cons_succ, Act.put, List.setIfInBounds_toArray, List.set_cons_zero, List.set_cons_succ]
                    refine wpAnyH_take (i := 8) (v := (.int .i64 (Wt.do S s.x).1)) rfl (by kernel_rfl) (by kernel_rfl) (by kernel_rfl) (fun _ _ _ h => h) (Or.inl ⟨by rfl, fun w hSw => by go_simp⟩) h9 ?_
                    try simp only [List.getElem_toArray, List.getElem_cons_zero, List.getElem_cons_succ, Act.put, List.setIfInBounds_toArray, List.set_cons_zero, List.set_cons_succ]
                    refine wpAnyH_done (by kernel_rfl) ?_ _
                    clear h9 hsl hk6 hg6 h6 hv0 hx5
                    go_wp2
                    go_meet
                    case rel => exact ⟨rfl, H9⟩
                case rest =>
                  obtain ⟨rfl, H9⟩ := hcut
                  rw [HMS.out] at H9
                  rw [HMS.out]
                  have hUw2 := HCO.out
                  clear FIN hx5 hqX hsX T5 hTs hin5
                  as_aux_lemma =>
                    go_wp2
                    refine ⟨⟨j + 1, by omega, by go_num, vo, dl, vk, U, Z, rfl, rfl, rfl, by omega, hU, hZ, hide ⟨S, D, hTo, hon, hDl, hDL, hUe, hZe, by omega, H9.out.1⟩⟩, by simp [intOf]; omega⟩
          · have hjk : j = k := by omega
            have hfits : fits xs (D.map (fun s => s.x.ch)) := by have := (hTs.ax.wf.th 0 (by rw [hTo.nx]; decide)).1; rw [hTo.th] at this; exact this
            have HTs : Hid (Tos w wr p S 500000 (.slice vo dl vk) D) := hide (hTs.mono (by
              have e2 := wcost_app (L.take j) (L.drop j)
              rw [List.take_append_drop] at e2
              have h3 := HWE.out
              omega))
            have HE := hide (And.intro hfits (And.intro hUe (And.intro hZe (And.intro hTo (And.intro hDl hDL)))))
            clear hfits hUe hZe hTo hDl hDL hTs hUw
            as_aux_lemma =>
              go_wp2
              go_meet
              case rel => exact ⟨vo, dl, vk, U, rfl, rfl, by omega, hU, hide ⟨S, D, Z, hZ, HE.out.1, HE.out.2.1, HE.out.2.2.1, HE.out.2.2.2.1, HE.out.2.2.2.2.1, HE.out.2.2.2.2.2, HTs.out⟩⟩
      case rest =>
        obtain ⟨vo, dl, vk, U, rfl, rfl, hdl, hU, HR⟩ := hcut
        obtain ⟨wr, hwr'⟩ : ∃ wr, wr = wc := ⟨_, rfl⟩
        rw [← hwr'] at HR ⊢
        clear hwr' H8 HT0
        obtain ⟨S, D, Z, hZ, g1, g2, g3, g4, g5, g6, g7⟩ := HR.out
        clear HR
        have HE : Hid (fits xs (D.map (fun s => s.x.ch)) ∧ unitsOf (D.map (fun s => s.x.ch)) = U ∧ (runs xs (D.map (fun s => s.x.ch))).length = Z ∧ To S xs (D.map (fun s => s.x.ch)) ∧ D.length = dl ∧ (∀ s ∈ D, s ∈ L ∧ 0 ≤ s.x.at_)) := hide ⟨g1, g2, g3, g4, g5, g6⟩
        have HTs := hide g7
        clear g1 g2 g3 g4 g5 g6 g7
        have hrt := hide (rnd_tmod2 pick U)
        have hb1 : -((U : Int) + 1) < pick.tmod ((U : Int) + 1) := Int.lt_tmod_of_pos pick (by omega)
        have hb2 : pick.tmod ((U : Int) + 1) < (U : Int) + 1 := Int.tmod_lt_of_pos pick (by omega)
        have hnz : ¬ ((U : Int) + 1 = 0) := by omega
        have hdnL : Hid (∀ s ∈ L, s.dn ≤ 1000000) := hide (fun s hs => by
          have h1 := dn_le hs
          have h2 := HWE.out
          have h3 := HWC.out
          unfold wcost at h2
          omega)
        go_upto_if 197 with (fail)
        go_cut [22] from 192 to 278 (fun kv wx => kv = .int .i64 (rnd pick U : Nat) ∧ wx = wr)
        case first =>
          by_cases hneg : pick.tmod ((U : Int) + 1) < 0
          · have hq := hrt.out
            rw [if_pos hneg] at hq
            have HQ := hide hq
            clear hq
            go_wp2
            go_meet
            case rel => exact ⟨by rw [← HQ.out], rfl⟩
          · have hq := hrt.out
            rw [if_neg hneg] at hq
            have HQ := hide hq
            clear hq
            go_wp2
            go_meet
            case rel => exact ⟨by rw [← HQ.out], rfl⟩
        case rest =>
          obtain ⟨rfl, hwc⟩ := hcut
          subst hwc
          have hkl := rnd_le pick U
          generalize hKe : rnd pick U = K0 at *
          have HKE := hide hKe
          clear hKe hb1 hb2 hnz hrt
          have hn100 : n ≤ 100000 := by omega
          obtain ⟨g, c', w10, hap, hsl, hk10, hg10, hnc, hgl⟩ := fresh_bytes2 wc 22 ao n cap xs HB.out.len (HB.out.sl.keep (Keep.ofNone (F := fun _ => False) HTs.out.old) (fun _ _ _ h => h)) (fun e => ⟨by have h1 := (HB.out.nil e).1; have h2 := HB.out.len; rw [h1] at h2; exact h2.symm, (HB.out.nil e).2⟩) (by omega)
          have H10 : Hid (∃ want, Wan2 xs (D.map (fun s => s.x.ch)) K0 0 K0 want ∧ want.length = n ∧ Sl w10 (some ⟨g, 0, none⟩) want ∧ Kept [] wc w10 ∧ wc.heap.size ≤ g) := hide ⟨xs, Wan2.start HE.out.1, HB.out.len, hsl, hk10, hg10⟩
          clear hsl hk10 hg10 hgl
          go_upto_region 46 with (at_builtin; refine wpList_app_run rfl _ _ 22 22 rfl _ _ rfl rfl _ _ hap ?_; clear hap)
          have hDn : D.length = dl := HE.out.2.2.2.2.1
          go_loopw [24, 22, 23, 25] (fun iv kv wv _ wr => ∃ (i kk g wn wcp : Nat), i ≤ dl ∧ iv = .int .i64 i ∧ kv = .int .i64 kk ∧ wv = .slice (some ⟨g, 0, none⟩) wn wcp ∧ kk ≤ U ∧ wn ≤ wcp ∧ wn ≤ 200000 ∧ Hid (∃ want, Wan2 xs (D.map (fun s => s.x.ch)) K0 i kk want ∧ want.length = wn ∧ Sl wr (some ⟨g, 0, none⟩) want ∧ Kept [] wc wr ∧ wc.heap.size ≤ g)) (fun iv _ _ _ wr => dl - (intOf iv).toNat)
          case atStart => exact ⟨0, K0, g, n, c', Nat.zero_le _, rfl, rfl, rfl, hkl, hnc, by omega, H10.out⟩
          case round =>
            clear H10 hnc
            obtain ⟨i, kk, g, wn, wcp, hi, rfl, rfl, rfl, hkU, hnc, hw2, HW⟩ := hrel
            by_cases hgo : i < dl ∧ 0 < kk
            · have hlt := hgo.1
              have hkk := hgo.2
              clear hgo
              obtain ⟨want, hW, hwl, hws, hwk, hwg⟩ := HW.out
              clear HW
              obtain ⟨s, hsD⟩ : ∃ s, D[i]? = some s := ⟨_, List.getElem?_eq_getElem (by omega)⟩
              have hsL := HE.out.2.2.2.2.2 s (List.mem_of_getElem? hsD)
              have T1 := HTs.out.kept hwk
              obtain ⟨gd, hvo, d0, d1, d2⟩ := T1.at hsD
              cases hvo
              have hwm : WmIn wr s := ((wrs_mem HS.out hsL.1).kept HTs.out.old).kept hwk
              have hcu := ch_units s hwm
              have hRi : (D.map (fun s => s.x.ch))[i]? = some s.x.ch := by rw [List.getElem?_map, hsD]; rfl
              obtain ⟨hpl, hnx⟩ := hW.step hkk hRi
              rw [ch_place, hwl] at hpl
              have hats : 0 ≤ s.x.at_ ∧ s.x.at_ ≤ (wn : Int) := ⟨hsL.2, by have := hsL.2; omega⟩
              have hdn := hdnL.out s hsL.1
              have hwn2 : (s.x.ch.apply want (min kk s.x.ch.units)).length ≤ 200000 := by
                have h1 := hnx.len
                have h2 := HE.out.2.1
                have h3 := HB.out.len
                have hU' := hU
                split at h1 <;> omega
              have hi1 : (i : Int) < (dl : Int) := by omega
              have hk1 : (0 : Int) < (kk : Int) := by omega
              have NXT : Hid (∀ w2 g2 m2, (s.x.ch.apply want (min kk s.x.ch.units)).length = m2 → Sl w2 (some ⟨g2, 0, none⟩) (s.x.ch.apply want (min kk s.x.ch.units)) → Kept [] wr w2 → wr.heap.size ≤ g2 → m2 ≤ 200000 ∧ Hid (∃ want, Wan2 xs (D.map (fun s => s.x.ch)) K0 (i + 1) (kk - min kk s.x.ch.units) want ∧ want.length = m2 ∧ Sl w2 (some ⟨g2, 0, none⟩) want ∧ Kept [] wc w2 ∧ wc.heap.size ≤ g2)) := hide (fun w2 g2 m2 e1 e2 e3 e4 => ⟨by omega, _, hnx, e1, e2, hwk.trans e3 (by simp), by have := hwk.size; omega⟩)
              have hwn1 : wn ≤ 1000000 := by omega
              clear T1 hW hnx hwn2 hRi
              by_cases hcut : s.x.cut = true
              · rw [hcut, if_pos rfl] at hcu
                have hmin : min kk s.x.ch.units = 1 := by rw [hcu]; omega
                rw [hmin] at NXT
                have hwr := written_ok (some ⟨g, 0, none⟩) wn wcp want s 1 wr hwl hws hnc (by simp) hwm hats (by omega) (.inl (Nat.le_refl _)) hwn1 hdn
                rw [hcut] at hwr d0
                have q1 : ¬ ((kk : Int) < 1) := by omega
                have q2 : ((kk - 1 : Nat) : Int) = (kk : Int) - 1 := by omega
                clear hcu hwm hws hmin
                as_aux_lemma =>
                  go_wp2_with (go_at_call 13; refine hwr.mono ?_; rintro e w2 ⟨g2, m2, c2, rfl, e1, e2, e3, e4, e5⟩; obtain ⟨r1, r2⟩ := NXT.out w2 g2 m2 e1 e3 e4 e5; clear hwr e1 e3 e4 e5)
                  refine ⟨⟨i + 1, kk - 1, g2, m2, c2, by omega, by go_num, by first | rw [q2] | go_num, rfl, by omega, e2, r1, r2⟩, by simp [intOf]; omega⟩
              · simp only [Bool.not_eq_true] at hcut
                rw [hcut] at hcu
                simp only [Bool.false_eq_true, if_false] at hcu
                by_cases hgt : kk < s.dn
                · have hmin : min kk s.x.ch.units = kk := by rw [hcu]; omega
                  rw [hmin] at NXT
                  have hwr := written_ok (some ⟨g, 0, none⟩) wn wcp want s kk wr hwl hws hnc (by simp) hwm hats (by omega) (.inr hcut) hwn1 hdn
                  rw [hcut] at hwr d0
                  have q1 : (kk : Int) < (s.dn : Int) := by omega
                  have q2 : ((kk - kk : Nat) : Int) = (kk : Int) - (kk : Int) := by omega
                  clear hcu hwm hws hmin
                  as_aux_lemma =>
                    go_wp2_with (go_at_call 13; refine hwr.mono ?_; rintro e w2 ⟨g2, m2, c2, rfl, e1, e2, e3, e4, e5⟩; obtain ⟨r1, r2⟩ := NXT.out w2 g2 m2 e1 e3 e4 e5; clear hwr e1 e3 e4 e5)
                    refine ⟨⟨i + 1, kk - kk, g2, m2, c2, by omega, by go_num, by simp, rfl, by omega, e2, r1, r2⟩, by simp [intOf]; omega⟩
                · have hmin : min kk s.x.ch.units = s.dn := by rw [hcu]; omega
                  rw [hmin] at NXT
                  have hwr := written_ok (some ⟨g, 0, none⟩) wn wcp want s s.dn wr hwl hws hnc (by simp) hwm hats (by omega) (.inr hcut) hwn1 hdn
                  rw [hcut] at hwr d0
                  have q1 : ¬ (kk : Int) < (s.dn : Int) := by omega
                  have q2 : ((kk - s.dn : Nat) : Int) = (kk : Int) - (s.dn : Int) := by omega
                  clear hcu hwm hws hmin
                  as_aux_lemma =>
                    go_wp2_with (go_at_call 13; refine hwr.mono ?_; rintro e w2 ⟨g2, m2, c2, rfl, e1, e2, e3, e4, e5⟩; obtain ⟨r1, r2⟩ := NXT.out w2 g2 m2 e1 e3 e4 e5; clear hwr e1 e3 e4 e5)
                    refine ⟨⟨i + 1, kk - s.dn, g2, m2, c2, by omega, by go_num, by first | rw [q2] | go_num, rfl, by omega, e2, r1, r2⟩, by simp [intOf]; omega⟩
            · obtain ⟨want, hW, hwl, hws, hwk, hwg⟩ := HW.out
              have hwe : want = torn xs (D.map (fun s => s.x.ch)) K0 := hW.end (by rw [List.length_map]; omega)
              clear HW hW
              obtain ⟨X, hXe⟩ : ∃ X, X = More (fun b => b < w.heap.size ∨ (Value.slice vo dl vk).ownBlock = some b) wc wr := ⟨_, rfl⟩
              have hx := HTs.out.ax.more hwk
              rw [← hXe] at hx
              have hsX : ∀ b, (b < w.heap.size ∨ (Value.slice vo dl vk).ownBlock = some b) → X b := fun b hb => by rw [hXe]; exact .inl hb
              have hwX : want ≠ [] → ∀ a, (some (⟨g, 0, none⟩ : Addr)) = some a → X a.block := fun hne a ha => by
                cases ha
                obtain ⟨b, off, e, hlt, _⟩ := hws.open hne
                cases e
                rw [hXe]
                exact .inr ⟨hwg, hlt⟩
              have FIN : Hid (∀ w9 S9 N9, Ax X wr w9 p S9 N9 → Kept [] w w9 ∧ Sl w9 (some ⟨g, 0, none⟩) want) := hide (fun w9 S9 N9 h9 => ⟨((HTs.out.kept hwk).next (h9.sub hsX)).old, hws.keep h9.old (fun hne a ha hn => hn (hwX hne a ha))⟩)
              have HTo := hide (And.intro HE.out.2.2.2.1 (And.intro HE.out.2.1 HE.out.2.2.1))
              cases hon : S.on with
              | true =>
                have hon2 : (S.setPlan 0 0 0).on = true := by unfold Ds.setPlan; rw [if_pos hon]; exact hon
                have hcalm : Dsk.Calm (S.setPlan 0 0 0) := by unfold Ds.setPlan; rw [if_pos hon]; exact ⟨hon, rfl, rfl⟩
                have hpl := plan_ax hx 0 0 0 ⟨by decide, by decide, by decide⟩
                clear hx hsX hwX hXe hws hwk HTs HE
                by_cases hlt : i < dl
                · have hi1 : (i : Int) < (dl : Int) := by omega
                  have hk0 : ¬ (0 : Int) < (kk : Int) := by omega
                  clear hgo
                  as_aux_lemma =>
                    go_upto_region 56 with (go_at_call 9; refine hpl.mono ?_; rintro e w11 ⟨rfl, h11⟩; have H11 := hide h11; clear hpl h11)
                    have hof2 := off_ax H11.out
                    rw [hon2] at hof2
                    simp only [Bool.not_true] at hof2
                    have haw := away_ok H11.out (by omega) (HTo.out.1.plan 0) hcalm (by rw [HTo.out.2.2]; omega) how
                    go_upto_region 58 with (first
                      | (go_at_call 12; refine hof2.mono ?_; rintro e w' ⟨rfl, rfl⟩; clear hof2)
                      | (go_at_call 14; refine haw.mono ?_; rintro e w12 ⟨rfl, S2, hz2, h12⟩; have H12 := hide (And.intro hz2 h12); clear haw hz2 h12))
                    obtain ⟨kt, it⟩ := two_row w12 pick
                    have hpw : ∀ i, (Lit.int .i64 (([0, pick] : List Int).getD i 0)).wf = true := fun i => by
                      rcases i with _ | _ | i
                      · rfl
                      · exact hpk
                      · simp [List.getD]; rfl
                    have hcr := crash_ax H12.out.2 kt (by omega) (ps := [0, pick]) (n := 2) (c := 2) rfl it hpw (by omega) (fun _ a ha => by cases ha; exact .inl (Nat.le_refl _))
                    clear kt it hpw
                    go_upto_region 59 with (go_at_call 15; refine hcr.mono ?_; rintro e w13 ⟨rfl, h13⟩; have H13 := hide h13; clear hcr h13)
                    have hfe : (S2.crash [0, pick]).files = [([102], want)] := by rw [H12.out.1.crash pick, HTo.out.2.1, HKE.out, ← hwe]
                    have hfl := files_ax H13.out (by omega)
                    rw [hfe] at hfl
                    clear hfe
                    go_upto_region 60 with (go_at_call 16; refine hfl.mono ?_; rintro e w14 ⟨v, vs, rfl, hF, hk14⟩; obtain ⟨gf, cf, fo, fc, rfl, f0, f1, f2⟩ := hF.one; have F2 := hide f2; have K14 := hide hk14; clear hfl hF hk14 f2)
                    rw [hwl] at f1
                    have hby := bytes_yes fo (some ⟨g, 0, none⟩) wn fc wcp want w14 hwl (by omega) F2.out ((FIN.out w13 _ _ H13.out).2.kept K14.out (by simp))
                    go_wp2_with (first
                      | (go_at_call 17; refine hby.mono ?_; rintro e w15 ⟨rfl, kq, rfl⟩; clear hby)
                      | (go_at_call 18; refine (known_ok _).mono ?_; rintro e w16 ⟨rfl, hk16⟩; have H16 := hide hk16; clear hk16))
                    go_ret
                    exact ⟨rfl, ((((FIN.out w13 _ _ H13.out).1.trans K14.out (by simp)).trans ((Kept.refl [] w14).drewN kq) (by simp)).trans H16.out (by simp)).below (Nat.le_refl _) (by simp)⟩
                · have hi1 : ¬ (i : Int) < (dl : Int) := by omega
                  clear hgo
                  as_aux_lemma =>
                    go_upto_region 56 with (go_at_call 9; refine hpl.mono ?_; rintro e w11 ⟨rfl, h11⟩; have H11 := hide h11; clear hpl h11)
                    have hof2 := off_ax H11.out
                    rw [hon2] at hof2
                    simp only [Bool.not_true] at hof2
                    have haw := away_ok H11.out (by omega) (HTo.out.1.plan 0) hcalm (by rw [HTo.out.2.2]; omega) how
                    go_upto_region 58 with (first
                      | (go_at_call 12; refine hof2.mono ?_; rintro e w' ⟨rfl, rfl⟩; clear hof2)
                      | (go_at_call 14; refine haw.mono ?_; rintro e w12 ⟨rfl, S2, hz2, h12⟩; have H12 := hide (And.intro hz2 h12); clear haw hz2 h12))
                    obtain ⟨kt, it⟩ := two_row w12 pick
                    have hpw : ∀ i, (Lit.int .i64 (([0, pick] : List Int).getD i 0)).wf = true := fun i => by
                      rcases i with _ | _ | i
                      · rfl
                      · exact hpk
                      · simp [List.getD]; rfl
                    have hcr := crash_ax H12.out.2 kt (by omega) (ps := [0, pick]) (n := 2) (c := 2) rfl it hpw (by omega) (fun _ a ha => by cases ha; exact .inl (Nat.le_refl _))
                    clear kt it hpw
                    go_upto_region 59 with (go_at_call 15; refine hcr.mono ?_; rintro e w13 ⟨rfl, h13⟩; have H13 := hide h13; clear hcr h13)
                    have hfe : (S2.crash [0, pick]).files = [([102], want)] := by rw [H12.out.1.crash pick, HTo.out.2.1, HKE.out, ← hwe]
                    have hfl := files_ax H13.out (by omega)
                    rw [hfe] at hfl
                    clear hfe
                    go_upto_region 60 with (go_at_call 16; refine hfl.mono ?_; rintro e w14 ⟨v, vs, rfl, hF, hk14⟩; obtain ⟨gf, cf, fo, fc, rfl, f0, f1, f2⟩ := hF.one; have F2 := hide f2; have K14 := hide hk14; clear hfl hF hk14 f2)
                    rw [hwl] at f1
                    have hby := bytes_yes fo (some ⟨g, 0, none⟩) wn fc wcp want w14 hwl (by omega) F2.out ((FIN.out w13 _ _ H13.out).2.kept K14.out (by simp))
                    go_wp2_with (first
                      | (go_at_call 17; refine hby.mono ?_; rintro e w15 ⟨rfl, kq, rfl⟩; clear hby)
                      | (go_at_call 18; refine (known_ok _).mono ?_; rintro e w16 ⟨rfl, hk16⟩; have H16 := hide hk16; clear hk16))
                    go_ret
                    exact ⟨rfl, ((((FIN.out w13 _ _ H13.out).1.trans K14.out (by simp)).trans ((Kept.refl [] w14).drewN kq) (by simp)).trans H16.out (by simp)).below (Nat.le_refl _) (by simp)⟩
              | false =>
                have hon2 : (S.setPlan 0 0 0).on = false := by unfold Ds.setPlan; rw [if_neg (by rw [hon]; decide)]; exact hon
                have hpl := plan_ax hx 0 0 0 ⟨by decide, by decide, by decide⟩
                clear hx hsX hwX hXe hws hwk HTs HE
                by_cases hlt : i < dl
                · have hi1 : (i : Int) < (dl : Int) := by omega
                  have hk0 : ¬ (0 : Int) < (kk : Int) := by omega
                  clear hgo
                  as_aux_lemma =>
                    go_upto_region 56 with (go_at_call 9; refine hpl.mono ?_; rintro e w11 ⟨rfl, h11⟩; have H11 := hide h11; clear hpl h11)
                    have hof2 := off_ax H11.out
                    rw [hon2] at hof2
                    simp only [Bool.not_false] at hof2
                    go_upto_region 58 with (go_at_call 12; refine hof2.mono ?_; rintro e w' ⟨rfl, hww⟩; obtain rfl := hww.symm; clear hof2)
                    have H12 : Hid (Tz (S.setPlan 0 0 0) xs (D.map (fun s => s.x.ch)) ∧ Ax X wr w11 p (S.setPlan 0 0 0) 500020) := hide ⟨(HTo.out.1.plan 0).tz, H11.out.mono (by omega)⟩
                    clear H11 hon2
                    generalize S.setPlan 0 0 0 = S2 at H12
                    obtain ⟨kt, it⟩ := two_row w11 pick
                    have hpw : ∀ i, (Lit.int .i64 (([0, pick] : List Int).getD i 0)).wf = true := fun i => by
                      rcases i with _ | _ | i
                      · rfl
                      · exact hpk
                      · simp [List.getD]; rfl
                    have hcr := crash_ax H12.out.2 kt (by omega) (ps := [0, pick]) (n := 2) (c := 2) rfl it hpw (by omega) (fun _ a ha => by cases ha; exact .inl (Nat.le_refl _))
                    clear kt it hpw
                    go_upto_region 59 with (go_at_call 15; refine hcr.mono ?_; rintro e w13 ⟨rfl, h13⟩; have H13 := hide h13; clear hcr h13)
                    have hfe : (S2.crash [0, pick]).files = [([102], want)] := by rw [H12.out.1.crash pick, HTo.out.2.1, HKE.out, ← hwe]
                    have hfl := files_ax H13.out (by omega)
                    rw [hfe] at hfl
                    clear hfe
                    go_upto_region 60 with (go_at_call 16; refine hfl.mono ?_; rintro e w14 ⟨v, vs, rfl, hF, hk14⟩; obtain ⟨gf, cf, fo, fc, rfl, f0, f1, f2⟩ := hF.one; have F2 := hide f2; have K14 := hide hk14; clear hfl hF hk14 f2)
                    rw [hwl] at f1
                    have hby := bytes_yes fo (some ⟨g, 0, none⟩) wn fc wcp want w14 hwl (by omega) F2.out ((FIN.out w13 _ _ H13.out).2.kept K14.out (by simp))
                    go_wp2_with (first
                      | (go_at_call 17; refine hby.mono ?_; rintro e w15 ⟨rfl, kq, rfl⟩; clear hby)
                      | (go_at_call 18; refine (known_ok _).mono ?_; rintro e w16 ⟨rfl, hk16⟩; have H16 := hide hk16; clear hk16))
                    go_ret
                    exact ⟨rfl, ((((FIN.out w13 _ _ H13.out).1.trans K14.out (by simp)).trans ((Kept.refl [] w14).drewN kq) (by simp)).trans H16.out (by simp)).below (Nat.le_refl _) (by simp)⟩
                · have hi1 : ¬ (i : Int) < (dl : Int) := by omega
                  clear hgo
                  as_aux_lemma =>
                    go_upto_region 56 with (go_at_call 9; refine hpl.mono ?_; rintro e w11 ⟨rfl, h11⟩; have H11 := hide h11; clear hpl h11)
                    have hof2 := off_ax H11.out
                    rw [hon2] at hof2
                    simp only [Bool.not_false] at hof2
                    go_upto_region 58 with (go_at_call 12; refine hof2.mono ?_; rintro e w' ⟨rfl, hww⟩; obtain rfl := hww.symm; clear hof2)
                    have H12 : Hid (Tz (S.setPlan 0 0 0) xs (D.map (fun s => s.x.ch)) ∧ Ax X wr w11 p (S.setPlan 0 0 0) 500020) := hide ⟨(HTo.out.1.plan 0).tz, H11.out.mono (by omega)⟩
                    clear H11 hon2
                    generalize S.setPlan 0 0 0 = S2 at H12
                    obtain ⟨kt, it⟩ := two_row w11 pick
                    have hpw : ∀ i, (Lit.int .i64 (([0, pick] : List Int).getD i 0)).wf = true := fun i => by
                      rcases i with _ | _ | i
                      · rfl
                      · exact hpk
                      · simp [List.getD]; rfl
                    have hcr := crash_ax H12.out.2 kt (by omega) (ps := [0, pick]) (n := 2) (c := 2) rfl it hpw (by omega) (fun _ a ha => by cases ha; exact .inl (Nat.le_refl _))
                    clear kt it hpw
                    go_upto_region 59 with (go_at_call 15; refine hcr.mono ?_; rintro e w13 ⟨rfl, h13⟩; have H13 := hide h13; clear hcr h13)
                    have hfe : (S2.crash [0, pick]).files = [([102], want)] := by rw [H12.out.1.crash pick, HTo.out.2.1, HKE.out, ← hwe]
                    have hfl := files_ax H13.out (by omega)
                    rw [hfe] at hfl
                    clear hfe
                    go_upto_region 60 with (go_at_call 16; refine hfl.mono ?_; rintro e w14 ⟨v, vs, rfl, hF, hk14⟩; obtain ⟨gf, cf, fo, fc, rfl, f0, f1, f2⟩ := hF.one; have F2 := hide f2; have K14 := hide hk14; clear hfl hF hk14 f2)
                    rw [hwl] at f1
                    have hby := bytes_yes fo (some ⟨g, 0, none⟩) wn fc wcp want w14 hwl (by omega) F2.out ((FIN.out w13 _ _ H13.out).2.kept K14.out (by simp))
                    go_wp2_with (first
                      | (go_at_call 17; refine hby.mono ?_; rintro e w15 ⟨rfl, kq, rfl⟩; clear hby)
                      | (go_at_call 18; refine (known_ok _).mono ?_; rintro e w16 ⟨rfl, hk16⟩; have H16 := hide hk16; clear hk16))
                    go_ret
                    exact ⟨rfl, ((((FIN.out w13 _ _ H13.out).1.trans K14.out (by simp)).trans ((Kept.refl [] w14).drewN kq) (by simp)).trans H16.out (by simp)).below (Nat.le_refl _) (by simp)⟩
end Go.Proofs.Ytlokekjljibmbaa
