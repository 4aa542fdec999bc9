import Derived.Test.YtodihkdmneihiaaGreatDoorHop
import Derived.Test.YtodihkdmneihiaaGreatDoorHip
import Derived.Test.YtodihkdmneihiaaGreatDoorReo2p
namespace Go.Proofs.YtodihkdmneihiaaGreatDoor
section
open Go.RowKit Dsk
set_option linter.unusedVariables false
set_option linter.unusedSimpArgs false
theorem isPrefix_take (p n : By) : p.isPrefixOf n = (n.take p.length == p) := by
 rw [Bool.eq_iff_iff, List.isPrefixOf_iff_prefix, beq_iff_eq]
 refine ⟨fun h => by obtain ⟨t, rfl⟩ := h; simp, fun h => ⟨n.drop p.length, ?_⟩⟩
 have := List.take_append_drop p.length n
 rw [h] at this
 exact this
theorem notPrefix_len (p n : By) (h : ¬ p.length ≤ n.length) : p.isPrefixOf n = false := by
 rw [Bool.eq_false_iff, ne_eq, List.isPrefixOf_iff_prefix]
 intro hp
 exact h hp.length_le
theorem ext_take (s : By) (k : Nat) : (ByteArray.mk s.toArray).extract 0 k = ByteArray.mk (s.take k).toArray := by
 apply ByteArray.ext
 simp
set_option maxHeartbeats 800000 in
set_option maxRecDepth 100000 in
theorem litePrefix_ok (s p : By) (w : World) (hs : s.length ≤ 4611686018427387904) (hp : p.length ≤ 4611686018427387904) : Calls Tryz.prog 115 #[.string ⟨s.toArray⟩, .string ⟨p.toArray⟩] w fun e w' => e = .returned (.bool (p.isPrefixOf s)) ∧ w' = w := by
 have hss : (ByteArray.mk s.toArray).size = s.length := by simp [ByteArray.size]
 have hsp : (ByteArray.mk p.toArray).size = p.length := by simp [ByteArray.size]
 by_cases h : p.length ≤ s.length
 ·rw [isPrefix_take p s]
  have hE := ext_take s p.length
  go_enter Tryz.func115, Tryz.ntmps115
  go_wp2
  go_ret
  exact ⟨rfl, rfl⟩
 ·rw [notPrefix_len p s h]
  go_enter Tryz.func115, Tryz.ntmps115
  go_wp2
  go_ret
  exact ⟨rfl, rfl⟩
set_option maxHeartbeats 800000 in
set_option maxRecDepth 100000 in
theorem hasPrefix_ok (s p : By) (w : World) (hs : s.length ≤ 4611686018427387904) (hp : p.length ≤ 4611686018427387904) : Calls Tryz.prog 93 #[.string ⟨s.toArray⟩, .string ⟨p.toArray⟩] w fun e w' => e = .returned (.bool (p.isPrefixOf s)) ∧ w' = w := by
 have hc := litePrefix_ok s p w hs hp
 go_enter Tryz.func93, Tryz.ntmps93
 go_wp2_with (go_at_call 115; refine hc.mono ?_; rintro e w' ⟨rfl, rfl⟩)
 go_ret
 exact ⟨rfl, rfl⟩
theorem Tryz.infoStr : (Tryz.prog.info? 9).map (fun i => (i.zero, i.size, i.bytes)) = some (some (.string ⟨#[]⟩), 1, 16) := by kernel_rfl
def pre (p : By) (l : List By) : List By := l.filter (fun n => p.isPrefixOf n)
theorem pre_snoc (p : By) (l : List By) (k : Nat) (n : By) (h : l[k]? = some n) : pre p (l.take (k + 1)) = pre p (l.take k) ++ (if p.isPrefixOf n then [n] else []) := by
 rw [List.take_add_one, h]
 unfold pre
 rw [List.filter_append]
 congr 1
 by_cases hp : p.isPrefixOf n = true <;> simp [hp]
structure Lq (w wr : World) (nv : Value) (ks : List By) (v : Value) (l : List By) : Prop where
 row : wr.ownsRow 0 9 1 v l.length (l.map encStr)
 new : ∀ g, v.ownBlock = some g → w.heap.size ≤ g
 keep : Kept [] w wr
 names : wr.ownsRow 0 9 1 nv ks.length (ks.map encStr)
 off : ∀ g, v.ownBlock = some g → nv.ownBlock ≠ some g
theorem Lq.start {w w1 : World} {nv : Value} {ks : List By} (hbl : Below w.heap.size w w1) (h : w1.ownsRow 0 9 1 nv ks.length (ks.map encStr)) : Lq w w1 nv ks (.slice none 0 0) [] :=
 ⟨World.ownsRow_nil _ _ _ _, by simp [Value.ownBlock], Kept.of_below hbl, h, by simp [Value.ownBlock]⟩
theorem Lq.step {w wr w5 : World} {nv v v' : Value} {ks l : List By} {n : By} (h : Lq w wr nv ks v l)
  (ho : w5.ownsRow 0 9 1 v' (l.length + 1) (l.map encStr ++ [encStr n])) (hK : ∀ F : Nat → Prop, (∀ k, v.ownBlock = some k → F k) → Keep F wr w5) (hl : ∀ g, v'.ownBlock = some g → v.ownBlock = some g ∨ wr.heap.size ≤ g) : Lq w w5 nv ks v' (l ++ [n]) := by
 have hs := h.keep.size
 have hK5 := hK (fun k => v.ownBlock = some k) (fun _ e => e)
 refine ⟨by simpa using ho, fun g hg => ?_, ?_, own_keeps h.names hK5 (fun g hg e => h.off g e hg), fun g hg hn => ?_⟩
 ·rcases hl g hg with e | e
  ·exact h.new g e
  ·omega
 ·exact ⟨hK5.os.trans h.keep.os, hK5.tape.trans h.keep.tape, hK5.output.trans h.keep.output, Nat.le_trans h.keep.size hK5.size, fun i hi _ => (hK5.block i (Nat.lt_of_lt_of_le hi h.keep.size) (fun e => by have := h.new i e; omega)).trans (h.keep.block i hi (by simp))⟩
 ·rcases hl g hg with e | e
  ·exact h.off g e hn
  ·have := (h.names.lt g hn).2; omega
set_option maxHeartbeats 1600000 in
set_option maxRecDepth 100000 in
theorem list_ok {w : World} {p : Nat} {S : Ds} {A : Nat → Nat} {o : Lab} {N : Nat} (h : PD w p S A o) (hB : S.Bd N) (hN : N ≤ 268435456) (q : By) (hq : q.length ≤ 4611686018427387904) : Calls Tryz.prog 65 #[.pointer (some ⟨p, 0, none⟩), encStr q] w fun e w' => ∃ v, e = .returned v ∧ w'.ownsRow 0 9 1 v (S.list q).length ((S.list q).map encStr) ∧ (∀ g, v.ownBlock = some g → w.heap.size ≤ g) ∧ Kept [] w w' := by
 obtain ⟨ms, mh, rv, sv, h⟩ := h
 have hoff := off_ok h
 by_cases hon : S.on = true
 ·have hup : S.shown.Up := h.wf.sup
  have hlen : S.shown.length ≤ N := hB.shown h.wf
  have hrs := rising_ok mh A S.shown w h.shown hup (by omega)
  have cm := h.c4
  have HLS : Hid (S.list q = pre q S.shown.keys) := hide (by simp [Ds.list, hon, pre])
  have HNM : Hid (∀ x ∈ S.shown, x.1.length ≤ 112) := hide (fun x hx => isNm_len (h.wf.snm _ hx))
  rw [hon] at hoff
  clear h hB hon hup
  go_enter Tryz.func65, Tryz.ntmps65
  go_wp2_with (first
   | (go_at_call 41; refine hoff.mono ?_; rintro e w' ⟨rfl, hw⟩; obtain rfl := hw.symm; clear hoff)
   | (go_at_call 87; refine hrs.mono ?_; rintro e w1 ⟨nv, rfl, hrow, hbl⟩; obtain ⟨no, nc, rfl, _⟩ := own_shape hrow; have HLP := hide (Lq.start hbl (show w1.ownsRow 0 9 1 _ (S.shown.keys).length (S.shown.keys.map encStr) by simpa [Nm.keys] using ownsRow_base_a hrow (Nat.zero_le _))); clear hrow hbl hrs))
  generalize hLe : S.shown.length = M at *
  have HL := hide hLe
  clear cm hLe
  go_loopw [17, 5, 7] (fun i f _ wr => ∃ k m : Nat, k ≤ M ∧ m ≤ k ∧ i = .int .i64 k ∧ Hid (Lq w wr (.slice no M nc) S.shown.keys f (pre q (S.shown.keys.take k)) ∧ (pre q (S.shown.keys.take k)).length = m) ∧ ∃ fo fc, f = .slice fo m fc) (fun i _ _ wr => M - (intOf i).toNat)
  case atStart => exact ⟨0, 0, by omega, by omega, rfl, hide ⟨by simpa [pre] using HLP.out, by simp [pre]⟩, none, 0, rfl⟩
  case round =>
   clear HLP
   obtain ⟨k, m, hk, hmk, rfl, HR, fo, fc, rfl⟩ := hrel
   obtain ⟨hR, hm⟩ := HR.out
   clear HR
   by_cases hlt : k < M
   ·have hlt2 : k < S.shown.length := by rw [HL.out]; exact hlt
    obtain ⟨⟨n, id⟩, hqk⟩ : ∃ q, S.shown[k]? = some q := ⟨S.shown[k], List.getElem?_eq_getElem hlt2⟩
    have hkk : S.shown.keys[k]? = some n := by simp [Nm.keys, hqk]
    have hnl : n.length ≤ 112 := HNM.out _ (List.mem_of_getElem? hqk)
    obtain ⟨g, hg⟩ : ∃ g, no = some ⟨g, 0, none⟩ := by
     rcases hR.names.2 with ⟨e, e2⟩ | ⟨g, cap, cur, e, _⟩
     ·have h2 : S.shown.keys.length = S.shown.length := by simp [Nm.keys]
      omega
     ·injection e with e _ _; exact ⟨g, e⟩
    subst hg
    have hcell : wr.cell? ⟨g, k, none⟩ = some (encStr n) := by
     have := hR.names.cells (g := g) rfl k (encStr n) (by simp [hkk])
     rwa [add0] at this
    have hps := pre_snoc q S.shown.keys k n hkk
    have hpf := hasPrefix_ok n q wr (by omega) hq
    by_cases hp : q.isPrefixOf n = true
    ·rw [if_pos hp] at hps
     rw [hp] at hpf
     obtain ⟨ga, gc, w5, hap, ho5, hK5, hl5⟩ : ∃ g c w', (Builtin.append_ #[111, 111] 111 #[.slice fo m fc, .slice (some ⟨wr.heap.size, 0, none⟩) 1 1]).run Tryz.prog (wr.alloc (.cells #[encStr n] 9)) = .ok (.slice (some ⟨g, 0, none⟩) (m + 1) c) w' ∧ w'.ownsRow 0 9 1 (.slice (some ⟨g, 0, none⟩) (m + 1) c) (m + 1) ((pre q (S.shown.keys.take k)).map encStr ++ [encStr n]) ∧ (∀ F : Nat → Prop, (∀ j, (Value.slice fo m fc).ownBlock = some j → F j) → Keep F wr w') ∧ (∀ g', (Value.slice (some ⟨g, 0, none⟩) (m + 1) c).ownBlock = some g' → (Value.slice fo m fc).ownBlock = some g' ∨ wr.heap.size ≤ g') := by
      have hr4 := hR.row
      rw [hm] at hr4
      obtain ⟨g, c, w', e1, e2, e3, e4, _⟩ := run_app (P := Tryz.prog) wr 111 111 9 Tryz.underlying111 Tryz.infoStr rfl (by decide) _ m _ hr4 [encStr n] rfl (fun z hz => by simp only [List.mem_singleton] at hz; rw [hz]; rfl) (by unfold maxLen; omega) (by omega)
      refine ⟨g, c, w', e1, e2, e3, fun g' hg' => ?_⟩
      simp only [Value.ownBlock, Option.some.injEq] at hg'
      subst hg'
      rcases e4 with e | e
      ·exact .inl e.symm
      ·exact .inr e
     have H5 : Hid (Lq w w5 (.slice (some ⟨g, 0, none⟩) M nc) S.shown.keys (.slice (some ⟨ga, 0, none⟩) (m + 1) gc) (pre q (S.shown.keys.take (k + 1))) ∧ (pre q (S.shown.keys.take (k + 1))).length = m + 1) := hide (by
      rw [hps]
      exact ⟨hR.step (by rw [hm]; exact ho5) hK5 hl5, by simp [hm]⟩)
     clear hR hm hps hp hqk hkk ho5 hK5 hl5
     go_wp2_with (first
      | (go_at_call 93; refine hpf.mono ?_; rintro e w' ⟨rfl, hw⟩; obtain rfl := hw.symm; clear hpf)
      | (at_builtin; refine wpList_app_run rfl _ _ 111 111 rfl _ _ rfl rfl _ _ hap ?_))
     go_roundw
     case rel => exact ⟨k + 1, m + 1, by omega, by omega, by go_num, H5, _, _, rfl⟩
     case measure => simp [intOf]; omega
    ·simp only [Bool.not_eq_true] at hp
     rw [if_neg (by simp [hp]), List.append_nil] at hps
     rw [hp] at hpf
     have H5 : Hid (Lq w wr (.slice (some ⟨g, 0, none⟩) M nc) S.shown.keys (.slice fo m fc) (pre q (S.shown.keys.take (k + 1))) ∧ (pre q (S.shown.keys.take (k + 1))).length = m) := hide (by rw [hps]; exact ⟨hR, hm⟩)
     clear hR hm hps hp hqk hkk
     go_wp2_with (go_at_call 93; refine hpf.mono ?_; rintro e w' ⟨rfl, hw⟩; obtain rfl := hw.symm; clear hpf)
     go_roundw
     case rel => exact ⟨k + 1, m, by omega, by omega, by go_num, H5, _, _, rfl⟩
     case measure => simp [intOf]; omega
   ·have hkM : k = M := by omega
    subst hkM
    have HE : Hid (pre q (S.shown.keys.take k) = S.list q) := hide (by rw [HLS.out, List.take_of_length_le (by simp [Nm.keys]; rw [HL.out]; omega)])
    have HRR := hide hR
    clear hR hm
    go_wp2
    go_ret
    rw [HE.out] at HRR
    exact ⟨_, rfl, HRR.out.row, HRR.out.new, HRR.out.keep⟩
 ·simp only [Bool.not_eq_true] at hon
  rw [hon] at hoff
  have HLS : Hid (S.list q = []) := hide (by simp [Ds.list, hon])
  clear h hB hon
  go_enter Tryz.func65, Tryz.ntmps65
  go_wp2_with (go_at_call 41; refine hoff.mono ?_; rintro e w' ⟨rfl, hw⟩; obtain rfl := hw.symm; clear hoff)
  go_ret
  rw [HLS.out]
  exact ⟨_, rfl, World.ownsRow_nil _ _ _ _, by simp [Value.ownBlock, Array.getD], Kept.refl _ _⟩
end

section
open Go.RowKit Dsk
set_option linter.unusedVariables false
set_option linter.unusedSimpArgs false
theorem bnd64 {c : Int} (h : (Lit.int .i64 c).wf = true) : -9223372036854775808 ≤ c ∧ c ≤ 9223372036854775807 := by
 simp [Lit.wf, IntKind.min, IntKind.max, IntKind.bits, IntKind.signed] at h
 omega
section
variable {w : World} {q : Nat} {S : Ds} {A : Nat → Nat} {o : Lab} {nv bv tv sv : Value}
set_option maxHeartbeats 1600000 in
set_option maxRecDepth 100000 in
theorem rappend_ok (h : RDx w q S A o nv bv tv sv) (hwf : S.Wf) {N : Nat} (hB : S.Bd N) (n : By) (hn : n.length ≤ 4611686018427387904) (dO : Option Addr) (m dc : Nat) (d : By) (hN : N + m ≤ 268435456) (hG : Given w o dO m d) (hni : dO = none → m = 0 ∧ dc = 0) :
  Calls Tryz.prog 26 #[.pointer (some ⟨q, 0, none⟩), encStr n, .slice dO m dc] w fun e w' => e = .returned (.int .i64 (S.append n d).1) ∧ RAft w w' q (S.append n d).2 o := by
 have hth := there_ok h hwf.sup (by have := hB.shown hwf; omega) n hn
 by_cases h0 : (S.find n).1 = 0
 ·obtain ⟨i, hp, hi, hti, hlv, hon, hnx⟩ := find0 hwf h0
  have hlen := hB.len hwf hnx
  have hap : S.append n d = S.writeAt n (S.th (S.find n).2).shown.length d := by
   have : ¬ (((S.th (S.find n).2).shown.length : Int) < 0 ∨ ((S.th (S.find n).2).shown.length : Int) < (S.th (S.find n).2).shown.length) := by omega
   simp only [Ds.append, Ds.writeAt, h0, ne_eq, not_true, if_false]
   rw [if_neg this]
   rfl
  have hwa := rwriteAt_ok h hwf hB n hn ((S.th (S.find n).2).shown.length : Nat) (WalkArith.wf_i64 (by omega)) dO m dc d hN hG hni
  rw [← hap] at hwa
  rw [h0, hti] at hth
  generalize (S.find n).2 = k at *
  obtain ⟨mm, hm⟩ : ∃ m, S.shown.length = m := ⟨_, rfl⟩
  obtain ⟨no, nc, hnv⟩ := h.nvs
  rw [hm] at hnv hi
  have hmm : mm ≤ 268435456 := by have := hB.shown hwf; omega
  subst hnv
  obtain ⟨gn, hgn, _, cpn⟩ := nms_cell (n := mm) (l := S.shown) (A := A) (w := w) (vo := no) (vc := nc) h.now hp
  subst hgn
  have c2 := h.cell 2 _ rfl
  obtain ⟨so0, sc0, ho0, hc0, _, _, _, ch0, _, _⟩ := h.thShape hlv
  generalize (S.th k).shown.length = z at *
  generalize A k = ab at ch0 cpn
  clear h hp h0 hti hap hm hlv hB hG
  go_enter Tryz.func26, Tryz.ntmps26
  go_wp2_with (first
   | (go_at_call 76; refine hth.mono ?_; rintro e w' ⟨rfl, hw⟩; obtain rfl := hw.symm; clear hth)
   | (go_at_call 77; refine hwa.mono ?_; rintro e w2 ⟨rfl, hA⟩; have HA := hide hA; clear hwa hA))
  go_ret
  exact ⟨rfl, HA.out⟩
 ·have HC : Hid (S.append n d = ((S.find n).1, S)) := hide (by simp [Ds.append, h0])
  have HA := hide (RAft.of ⟨hwf, _, _, _, _, h⟩ (Keep.refl _ w))
  generalize (S.find n).1 = E at hth h0 HC
  generalize thereI S n = I at hth
  have e0 : (E == 0) = false := by simpa using h0
  have e1 : (E != 0) = true := by simpa using h0
  clear h hB h0 hG
  go_enter Tryz.func26, Tryz.ntmps26
  go_wp2_with (go_at_call 76; refine hth.mono ?_; rintro e w' ⟨rfl, hw⟩; obtain rfl := hw.symm; clear hth)
  go_ret
  exact ⟨by rw [HC.out]; rfl, by rw [HC.out]; exact HA.out⟩
theorem Spv_snoc (l : List Dsk.Span) (s : Dsk.Span) : Spv (l ++ [s]) = Spv l ++ encSp s := by simp [Spv]
theorem RDx.addTold {to : Option Addr} {n tc : Nat} (h : RDx w q S A o nv bv tv (.slice to n tc)) (hn : S.reads.length = n) (hb : n ≤ 536870912) (s : Dsk.Span) :
  ∃ g c' w5, (Builtin.append_ #[78, 78] 78 #[.slice to n tc, .slice (some ⟨w.heap.size, 0, none⟩) 1 1]).run Tryz.prog (w.alloc (.cells #[encStr s.name, .int .i64 s.at_, .int .i64 s.n] 164)) = .ok (.slice (some ⟨g, 0, none⟩) (n + 1) c') w5 ∧ w5.cell? ⟨q, 10, none⟩ = some (.slice to n tc) ∧ w5.frozen? ⟨q, 10, none⟩ = false ∧
   RDx (w5.setCell ⟨q, 10, none⟩ (.slice (some ⟨g, 0, none⟩) (n + 1) c')) q { S with reads := S.reads ++ [s] } A (o.ext w w5 1) nv bv tv (.slice (some ⟨g, 0, none⟩) (n + 1) c') ∧ Keep (fun b => o b = 1) w (w5.setCell ⟨q, 10, none⟩ (.slice (some ⟨g, 0, none⟩) (n + 1) c')) := by
 have hr := h.told
 rw [hn] at hr
 obtain ⟨g, c', w5, e1, e2, e3, e4, e5⟩ := run_app (P := Tryz.prog) w 78 78 164 Tryz.underlying78 Tryz.infoSpan rfl (by decide) _ n _ hr (encSp s) rfl (fun z hz => by simp only [encSp, List.mem_cons, List.not_mem_nil, or_false] at hz; rcases hz with rfl | rfl | rfl <;> rfl) (by unfold maxLen; omega) (by omega)
 have hK5 := e3 (fun k => (Value.slice to n tc).ownBlock = some k) (fun _ e => e)
 have nq : ¬ (Value.slice to n tc).ownBlock = some q := own_ne h.told h.cells (by decide)
 have hc5 := hK5.heapOf h.cells nq
 have old : ∀ b, b < w.heap.size → o.ext w w5 1 b = o b := fun b hb => Lab.ext_old hb
 have hk : Keep (· = q) w5 (w5.setCell ⟨q, 10, none⟩ (.slice (some ⟨g, 0, none⟩) (n + 1) c')) := (Keep.refl (· = q) w5).setCell (p := ⟨q, 10, none⟩) (fun _ => rfl) _
 have hF1 : ∀ b, (Value.slice to n tc).ownBlock = some b → o b = 1 := fun b e => h.ls b e
 have hno := own_keeps h.now hK5 (fun g hg e => own_two h.now h.told (by decide) g hg e)
 have hbe := own_keeps h.before hK5 (fun g hg e => own_two h.before h.told (by decide) g hg e)
 have hto := own_keeps h.turns hK5 (fun g hg e => own_two h.turns h.told (by decide) g hg e)
 have hlab : ∀ g', (Value.slice (some ⟨g, 0, none⟩) (n + 1) c').ownBlock = some g' → o.ext w w5 1 g' = 1 := fun g' hg' => by
  simp only [Value.ownBlock, Option.some.injEq] at hg'
  subst hg'
  rcases e4 with e | e
  ·rw [old g (hr.lt g e.symm).2]; exact h.ls g e.symm
  ·exact Lab.ext_new e e5
 have hcell : w5.cell? ⟨q, 10, none⟩ = some (.slice to n tc) := by rw [cell_of_row w5 q 10 _ _ _ hc5]; rfl
 refine ⟨g, c', w5, e1, hcell, frozen_of_row _ _ _ _ _ hc5, ⟨?_, ?_, ?_, ?_, ?_, ?_, ?_, ?_, ?_, ?_, hlab, ?_, h.pl⟩, ?_⟩
 ·rw [heap_setCell_same _ q 10 _ _ _ hc5]; simp
 ·exact own_keeps hno hk (own_types0 hno hc5 (by decide))
 ·exact own_keeps hbe hk (own_types0 hbe hc5 (by decide))
 ·exact own_keeps hto hk (own_types0 hto hc5 (by decide))
 ·have e2' : w5.ownsRow 0 164 3 (.slice (some ⟨g, 0, none⟩) (n + 1) c') (S.reads ++ [s]).length (Spv (S.reads ++ [s])) := by
   rw [Spv_snoc, List.length_append, hn]; exact e2
  exact own_keeps e2' hk (own_types0 e2' hc5 (by decide))
 ·intro k hk'
  have h1 : Rg w5 (o.ext w w5 1) (k + 2) (A k) (S.th k) := Rg.ext (F := fun k => (Value.slice to n tc).ownBlock = some k) (h.th k hk') hK5 (fun b e e2 => by have := hF1 b e2; omega)
  exact h1.keep hk (fun b hb e => by
   have e : b = q := e
   rw [e, old q h.qlt, h.lq] at hb
   omega)
 ·rw [old q h.qlt]; exact h.lq
 ·intro g' hg'; rw [old g' (h.now.lt g' hg').2]; exact h.ln g' hg'
 ·intro g' hg'; rw [old g' (h.before.lt g' hg').2]; exact h.lb g' hg'
 ·intro g' hg'; rw [old g' (h.turns.lt g' hg').2]; exact h.lt g' hg'
 ·exact lim_ext2 h.lim hK5.size hk.size
 ·refine (hK5.mono (G := fun b => o b = 1) (fun i e _ => hF1 i e)).trans hk (fun i e _ => by show o i = 1; rw [show i = q from e]; exact h.lq)
def RRead (w w' : World) (q : Nat) (S' : Ds) (o : Lab) (v : Value) (xs : By) : Prop := RAft w w' q S' o ∧ OwnB w' v xs.length xs ∧ (∀ g, v.ownBlock = some g → w.heap.size ≤ g)
set_option maxHeartbeats 3200000 in
set_option maxRecDepth 100000 in
theorem rread_ok (h : RDx w q S A o nv bv tv sv) (hwf : S.Wf) {N : Nat} (hB : S.Bd N) (hN : N ≤ 268435456) (n : By) (hn : n.length ≤ 4611686018427387904) (x y : Int) (hx : (Lit.int .i64 x).wf = true) (hy : (Lit.int .i64 y).wf = true) :
  Calls Tryz.prog 64 #[.pointer (some ⟨q, 0, none⟩), encStr n, .int .i64 x, .int .i64 y] w fun e w' => ∃ v, e = .returned (.tuple #[v, .int .i64 (S.readOk n x y)]) ∧ RRead w w' q (S.read n x y) o v (S.readBytes n x y) := by
 have hth := there_ok h hwf.sup (by have := hB.shown hwf; omega) n hn
 by_cases h0 : (S.find n).1 = 0
 ·obtain ⟨i, hp, hi, hti, hlv, hon, hnx⟩ := find0 hwf h0
  have hlen := hB.len hwf hnx
  have hro : S.readOk n x y = if x < 0 ∨ y < 0 ∨ ((S.th (S.find n).2).shown.length : Int) < x ∨ ((S.th (S.find n).2).shown.length : Int) - x < y then 54 else 0 := by simp [Ds.readOk, h0]
  have hwfR := hwf.read n x y
  have hrb : S.readBytes n x y = if S.readOk n x y = 0 then ((S.th (S.find n).2).shown.drop x.toNat).take y.toNat else [] := rfl
  have hrd : S.read n x y = if S.readOk n x y = 0 then { S with reads := S.reads ++ [⟨n, x.toNat, y.toNat⟩] } else S := rfl
  rw [h0, hti] at hth
  generalize (S.find n).2 = k at *
  obtain ⟨mm, hm⟩ : ∃ m, S.shown.length = m := ⟨_, rfl⟩
  obtain ⟨no, nc, hnv⟩ := h.nvs
  rw [hm] at hnv hi
  have hmm : mm ≤ 268435456 := by have := hB.shown hwf; omega
  subst hnv
  obtain ⟨gn, hgn, _, cpn⟩ := nms_cell (n := mm) (l := S.shown) (A := A) (w := w) (vo := no) (vc := nc) h.now hp
  subst hgn
  have c2 := h.cell 2 _ rfl
  obtain ⟨so0, sc0, ho0, hc0, _, hsh, _, ch0, hlb, hlt⟩ := h.thShape hlv
  obtain ⟨z, hz⟩ : ∃ z, (S.th k).shown.length = z := ⟨_, rfl⟩
  rw [hz] at hro hlen hsh ch0
  have hxb := bnd64 hx
  have hyb := bnd64 hy
  by_cases hbad : x < 0 ∨ y < 0 ∨ (z : Int) < x ∨ (z : Int) - x < y
  ·rw [if_pos hbad] at hro
   have HC : Hid (S.readOk n x y = 54) := hide hro
   have HR : Hid (RRead w w q (S.read n x y) o (.slice none 0 0) (S.readBytes n x y)) := hide (by
    rw [hrb, hrd, hro]
    exact ⟨RAft.of ⟨hwf, _, _, _, _, h⟩ (Keep.refl _ w), OwnB.nil _, by simp [Value.ownBlock]⟩)
   rw [hro]
   generalize A k = ab at ch0 cpn
   clear h hB h0 hti hp hwfR hro hrb hrd hz hm hlv hsh hlb hlt HC
   go_enter Tryz.func64, Tryz.ntmps64
   by_cases b1 : x < 0
   ·clear hbad
    go_wp2_with (go_at_call 76; refine hth.mono ?_; rintro e w' ⟨rfl, hw⟩; obtain rfl := hw.symm; clear hth)
    go_ret2
    exact ⟨_, rfl, HR.out⟩
   ·by_cases b2 : y < 0
    ·clear hbad
     go_wp2_with (go_at_call 76; refine hth.mono ?_; rintro e w' ⟨rfl, hw⟩; obtain rfl := hw.symm; clear hth)
     go_ret2
     exact ⟨_, rfl, HR.out⟩
    ·by_cases b3 : (z : Int) < x
     ·clear hbad
      go_wp2_with (go_at_call 76; refine hth.mono ?_; rintro e w' ⟨rfl, hw⟩; obtain rfl := hw.symm; clear hth)
      go_ret2
      exact ⟨_, rfl, HR.out⟩
     ·have b4 : (z : Int) - x < y := by omega
      clear hbad
      go_wp2_with (go_at_call 76; refine hth.mono ?_; rintro e w' ⟨rfl, hw⟩; obtain rfl := hw.symm; clear hth)
      go_ret2
      exact ⟨_, rfl, HR.out⟩
  ·rw [if_neg hbad] at hro
   obtain ⟨a, ha⟩ : ∃ a : Nat, (a : Int) = x := ⟨x.toNat, by omega⟩
   obtain ⟨b, hb⟩ : ∃ b : Nat, (b : Int) = y := ⟨y.toNat, by omega⟩
   have hat : x.toNat = a := by omega
   have hbt : y.toNat = b := by omega
   rw [hrd, hro, if_pos rfl, hat, hbt] at hwfR
   rw [hrb, hrd, hro, if_pos rfl, if_pos rfl, hat, hbt]
   subst ha hb
   have hab : a + b ≤ z := by omega
   obtain ⟨rn, hrn⟩ : ∃ rn, S.reads.length = rn := ⟨_, rfl⟩
   obtain ⟨to, tc, hsv⟩ := h.svs
   rw [hrn] at hsv
   subst hsv
   have hrl : rn ≤ 268435456 := by have := hB.reads; omega
   obtain ⟨g5, c5, w5, hap, d10, f10, hR6, hK6⟩ := h.addTold hrn (by omega) ⟨n, a, b⟩
   have s10 := h.cell 10 _ rfl
   obtain ⟨_, _, _, hn1, hn2, hn3, hn4⟩ := hsh.shape
   have hshape : z ≤ hc0 ∧ (ho0 = none → hc0 = 0) := by
    obtain ⟨bo, bc, e, q1, q2, q3, q4⟩ := hsh.shape
    injection e with e1 e2 e3
    subst e1 e3
    exact ⟨q1, fun e => (q3 e).2⟩
   have hsh6 := hsh.keep hK6 (fun g hg e => by
    obtain ⟨t1, t2, t3, t4, ht⟩ := h.th k hlv
    have hce : w.cell? ⟨A k, 1, none⟩ = some t2 := by rw [cell_of_row w _ 1 _ _ _ ht.cells]; rfl
    rw [ch0] at hce
    injection hce with hce
    have := ht.lh g (by rw [← hce]; exact hg)
    rw [this] at e
    omega)
   have HCUT : Hid (∀ W, Keep (fun _ => False) (w5.setCell ⟨q, 10, none⟩ (.slice (some ⟨g5, 0, none⟩) (rn + 1) c5)) W → True) := hide (fun _ _ => trivial)
   obtain ⟨ao', hcut, hsl6, hno6⟩ := Tryz.cutMid (w5.setCell ⟨q, 10, none⟩ (.slice (some ⟨g5, 0, none⟩) (rn + 1) c5)) ho0 z hc0 a b (S.th k).shown hsh6.sl hz hshape.1 hab hshape.2
   have hcp := copied_ok ao' b (hc0 - a) (((S.th k).shown.drop a).take b) (w5.setCell ⟨q, 10, none⟩ (.slice (some ⟨g5, 0, none⟩) (rn + 1) c5)) (by simp; omega) hsl6 hno6 (by omega)
   have HFIN : Hid (∀ g c' w7, w7.ownsRow 0 5 1 (.slice (some ⟨g, 0, none⟩) b c') b (bys (((S.th k).shown.drop a).take b)) → Kept [] (w5.setCell ⟨q, 10, none⟩ (.slice (some ⟨g5, 0, none⟩) (rn + 1) c5)) w7 → (w5.setCell ⟨q, 10, none⟩ (.slice (some ⟨g5, 0, none⟩) (rn + 1) c5)).heap.size ≤ g → RRead w w7 q { S with reads := S.reads ++ [⟨n, a, b⟩] } o (.slice (some ⟨g, 0, none⟩) b c') (((S.th k).shown.drop a).take b)) := hide (fun g c' w7 h1 h2 h3 => by
    have hl : (((S.th k).shown.drop a).take b).length = b := by simp; omega
    refine ⟨⟨A, o.ext w w5 1, ⟨hwfR, _, _, _, _, hR6.kept h2⟩, fun b hb hn => ext_le hb hn, ?_⟩, by rw [hl]; exact OwnB.of h1, fun g' e => ?_⟩
    ·exact (hK6.mono (G := o.mine) (fun i e _ => by show o i ≠ 0; rw [show o i = 1 from e]; decide)).kept h2
    ·simp only [Value.ownBlock] at e
     injection e with e
     rw [← e]
     exact Nat.le_trans hK6.size h3)
   have b1 : ¬ (a : Int) < 0 := by omega
   have b2 : ¬ (b : Int) < 0 := by omega
   have b3 : ¬ (z : Int) < (a : Int) := by omega
   have b4 : ¬ (z : Int) - (a : Int) < (b : Int) := by omega
   generalize A k = ab at ch0 cpn
   clear h hB h0 hti hp hwfR hrb hrd hz hm hlv hsh hlb hlt hR6 hK6 hsh6 hsl6 hno6 hshape hbad hro HCUT hn1 hn2 hn3 hn4 hat hbt hrn
   go_enter Tryz.func64, Tryz.ntmps64
   go_upto_region 8 with (first
    | (go_at_call 76; refine hth.mono ?_; rintro e w' ⟨rfl, hw⟩; obtain rfl := hw.symm; clear hth)
    | (at_builtin; refine wpList_app_run rfl _ _ 78 78 rfl _ _ rfl rfl _ _ hap ?_))
   generalize w5.setCell _ _ = w6 at hcut hcp HFIN ⊢
   clear d10 f10 s10 hap ch0 cpn c2
   go_wp2_with (go_at_call 82; refine hcp.mono ?_; rintro e w7 ⟨g, c', rfl, q1, q2, q3⟩; have H7 := hide (HFIN.out g c' w7 q1 q2 q3); clear hcp q1 q2 q3)
   go_ret2
   exact ⟨_, rfl, H7.out⟩
 ·have hro : S.readOk n x y = (S.find n).1 := by simp [Ds.readOk, h0]
  have HR : Hid (RRead w w q (S.read n x y) o (.slice none 0 0) (S.readBytes n x y)) := hide (by
   have h1 : S.read n x y = S := by simp [Ds.read, hro, h0]
   have h2 : S.readBytes n x y = [] := by simp [Ds.readBytes, hro, h0]
   rw [h1, h2]
   exact ⟨RAft.of ⟨hwf, _, _, _, _, h⟩ (Keep.refl _ w), OwnB.nil _, by simp [Value.ownBlock]⟩)
  rw [hro]
  generalize (S.find n).1 = E at hth h0
  generalize thereI S n = I at hth
  have e0 : (E == 0) = false := by simpa using h0
  have e1 : (E != 0) = true := by simpa using h0
  clear h hB h0 hro
  go_enter Tryz.func64, Tryz.ntmps64
  go_wp2_with (go_at_call 76; refine hth.mono ?_; rintro e w' ⟨rfl, hw⟩; obtain rfl := hw.symm; clear hth)
  go_ret2
  exact ⟨_, rfl, HR.out⟩
end
end

section
open Go.RowKit Dsk
set_option linter.unusedVariables false
set_option linter.unusedSimpArgs false
section
variable {w : World} {q : Nat} {S : Ds} {A : Nat → Nat} {o : Lab} {nv bv tv sv : Value}
structure Tl (w wr : World) (v : Value) (l : List By) : Prop where
 row : wr.ownsRow 0 9 1 v l.length (l.map encStr)
 new : ∀ g, v.ownBlock = some g → w.heap.size ≤ g
 keep : Kept [] w wr
theorem Tl.app {w wr : World} {fo : Option Addr} {m fc : Nat} {l : List By} (h : Tl w wr (.slice fo m fc) l) (hm : l.length = m) (hb : m ≤ 1073741824) (n : By) :
  ∃ g c w5, (Builtin.append_ #[111, 111] 111 #[.slice fo m fc, .slice (some ⟨wr.heap.size, 0, none⟩) 1 1]).run Tryz.prog (wr.alloc (.cells #[encStr n] 9)) = .ok (.slice (some ⟨g, 0, none⟩) (m + 1) c) w5 ∧ Tl w w5 (.slice (some ⟨g, 0, none⟩) (m + 1) c) (l ++ [n]) := by
 have hr := h.row
 rw [hm] at hr
 obtain ⟨g, c, w', e1, e2, e3, e4, _⟩ := run_app (P := Tryz.prog) wr 111 111 9 Tryz.underlying111 Tryz.infoStr rfl (by decide) _ m _ hr [encStr n] rfl (fun z hz => by simp only [List.mem_singleton] at hz; rw [hz]; rfl) (by unfold maxLen; omega) (by omega)
 have hK := e3 (fun k => (Value.slice fo m fc).ownBlock = some k) (fun _ e => e)
 refine ⟨g, c, w', e1, ⟨?_, ?_, ?_⟩⟩
 ·rw [List.map_append, List.length_append, hm]
  exact e2
 ·intro g' hg'
  simp only [Value.ownBlock, Option.some.injEq] at hg'
  subst hg'
  rcases e4 with e | e
  ·exact h.new g e.symm
  ·exact Nat.le_trans h.keep.size e
 ·exact ⟨hK.os.trans h.keep.os, hK.tape.trans h.keep.tape, hK.output.trans h.keep.output, Nat.le_trans h.keep.size hK.size, fun i hi _ => (hK.block i (Nat.lt_of_lt_of_le hi h.keep.size) (fun e => by have := h.new i e; omega)).trans (h.keep.block i hi (by simp))⟩
set_option maxHeartbeats 1600000 in
set_option maxRecDepth 100000 in
theorem rlist_ok (h : RDx w q S A o nv bv tv sv) (hwf : S.Wf) (hn : S.shown.length ≤ 268435456) (p : By) (hp : p.length ≤ 4611686018427387904) :
  Calls Tryz.prog 66 #[.pointer (some ⟨q, 0, none⟩), encStr p] w fun e w' => ∃ v, e = .returned v ∧ Tl w w' v (S.list p) := by
 have hoff := roff_ok h
 have HT0 : Hid (Tl w w (.slice none 0 0) []) := hide ⟨World.ownsRow_nil _ _ _ _, by simp [Value.ownBlock], Kept.refl _ _⟩
 cases hon : S.on with
 | false =>
  have HL : Hid (S.list p = []) := hide (by simp [Ds.list, hon])
  rw [hon] at hoff
  clear h hon
  go_enter Tryz.func66, Tryz.ntmps66
  go_wp2_with (go_at_call 42; refine hoff.mono ?_; rintro e w' ⟨rfl, hw⟩; obtain rfl := hw.symm; clear hoff)
  go_ret
  rw [HL.out]
  exact ⟨_, rfl, HT0.out⟩
 | true =>
  have HLS : Hid (S.list p = pre p S.shown.keys) := hide (by simp [Ds.list, hon, pre])
  have HNM : Hid (∀ x ∈ S.shown, x.1.length ≤ 112) := hide (fun x hx => isNm_len (hwf.snm _ hx))
  obtain ⟨M, hM⟩ : ∃ M, S.shown.length = M := ⟨_, rfl⟩
  obtain ⟨no, nc, hnv⟩ := h.nvs
  rw [hM] at hn hnv
  subst hnv
  have HC2 := hide (h.cell 2 _ rfl)
  have HM := hide hM
  have HH := hide h
  rw [hon] at hoff
  have hsp : (ByteArray.mk p.toArray).size = p.length := by simp [ByteArray.size]
  clear h hon hM
  go_enter Tryz.func66, Tryz.ntmps66
  go_wp2_with (go_at_call 42; refine hoff.mono ?_; rintro e w' ⟨rfl, hw⟩; obtain rfl := hw.symm; clear hoff)
  go_loopw [5, 6, 7] (fun f i _ wr => ∃ k m : Nat, k ≤ M ∧ m ≤ k ∧ i = .int .i64 k ∧ Hid (Tl w wr f (pre p (S.shown.keys.take k)) ∧ (pre p (S.shown.keys.take k)).length = m) ∧ ∃ fo fc, f = .slice fo m fc) (fun f i _ wr => M - (intOf i).toNat)
  case atStart => exact ⟨0, 0, by omega, by omega, rfl, hide ⟨by simpa [pre] using HT0.out, by simp [pre]⟩, none, 0, rfl⟩
  case round =>
   clear HT0
   obtain ⟨k, m, hk, hmk, rfl, HR, fo, fc, rfl⟩ := hrel
   obtain ⟨hR, hm⟩ := HR.out
   clear HR
   have c2 := hR.keep.cellOf HC2.out (by simp)
   by_cases hlt : k < M
   ·have hHr := HH.out.kept hR.keep
    obtain ⟨⟨nm, id⟩, hpk⟩ : ∃ q, S.shown[k]? = some q := ⟨S.shown[k]'(by rw [HM.out]; exact hlt), List.getElem?_eq_getElem _⟩
    obtain ⟨gn, rfl, hc0, hc1⟩ := nms_cell (n := M) (by have := hHr.now; rw [HM.out] at this ⊢; exact this) hpk
    have hkk : S.shown.keys[k]? = some nm := by simp [Nm.keys, hpk]
    have hnl : nm.length ≤ 112 := HNM.out _ (List.mem_of_getElem? hpk)
    have hps := pre_snoc p S.shown.keys k nm hkk
    have hss : (ByteArray.mk nm.toArray).size = nm.length := by simp [ByteArray.size]
    have hE := ext_take nm p.length
    by_cases hle : p.length ≤ nm.length
    ·cases hb : nm.take p.length == p with
     | true =>
      rw [if_pos (by rw [isPrefix_take]; exact hb)] at hps
      obtain ⟨ga, gc, w5, hap, hT5⟩ := hR.app hm (by omega) nm
      have H5 : Hid (Tl w w5 (.slice (some ⟨ga, 0, none⟩) (m + 1) gc) (pre p (S.shown.keys.take (k + 1))) ∧ (pre p (S.shown.keys.take (k + 1))).length = m + 1) := hide (by rw [hps]; exact ⟨hT5, by simp [hm]⟩)
      clear hHr hpk hkk hps hR hm hT5 hc1
      go_wp2_with (at_builtin; refine wpList_app_run rfl _ _ 111 111 rfl _ _ rfl rfl _ _ hap ?_)
      go_roundw
      case rel => exact ⟨k + 1, m + 1, by omega, by omega, by go_num, H5, _, _, rfl⟩
      case measure => simp [intOf]; omega
     | false =>
      rw [if_neg (by rw [isPrefix_take, hb]; decide), List.append_nil] at hps
      have H5 : Hid (Tl w wr (.slice fo m fc) (pre p (S.shown.keys.take (k + 1))) ∧ (pre p (S.shown.keys.take (k + 1))).length = m) := hide (by rw [hps]; exact ⟨hR, hm⟩)
      clear hHr hpk hkk hps hR hm hc1
      go_wp2
      go_roundw
      case rel => exact ⟨k + 1, m, by omega, by omega, by go_num, H5, _, _, rfl⟩
      case measure => simp [intOf]; omega
    ·rw [if_neg (by rw [notPrefix_len p nm hle]; decide), List.append_nil] at hps
     have H5 : Hid (Tl w wr (.slice fo m fc) (pre p (S.shown.keys.take (k + 1))) ∧ (pre p (S.shown.keys.take (k + 1))).length = m) := hide (by rw [hps]; exact ⟨hR, hm⟩)
     clear hHr hpk hkk hps hR hm hc1
     go_wp2
     go_roundw
     case rel => exact ⟨k + 1, m, by omega, by omega, by go_num, H5, _, _, rfl⟩
     case measure => simp [intOf]; omega
   ·have HE : Hid (Tl w wr (.slice fo m fc) (S.list p)) := hide (by
     rw [HLS.out]
     have := hR
     rw [List.take_of_length_le (by simp [Nm.keys]; rw [HM.out]; omega)] at this
     exact this)
    clear hR hm
    go_wp2
    go_ret
    exact ⟨_, rfl, HE.out⟩
end
end

end Go.Proofs.YtodihkdmneihiaaGreatDoor
