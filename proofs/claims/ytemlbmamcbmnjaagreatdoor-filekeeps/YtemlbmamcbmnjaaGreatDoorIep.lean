/-
  Contracts: strings.HasPrefix, List.
-/
import Derived.Test.YtemlbmamcbmnjaaGreatDoorHpp
import Derived.Test.YtemlbmamcbmnjaaGreatDoorHgp
namespace Go.Proofs.YtemlbmamcbmnjaaGreatDoor
open Go.RowKit Dsk
set_option linter.unusedVariables false
set_option linter.unusedSimpArgs false

theorem isPrefix_take (p n : By) : p.isPrefixOf n = (n.take p.length == p) := by
  rw [Bool.eq_iff_iff, List.isPrefixOf_iff_prefix, beq_iff_eq]
  refine ⟨fun h => by obtain ⟨t, rfl⟩ := h; simp, fun h => ⟨n.drop p.length, ?_⟩⟩
  have := List.take_append_drop p.length n
  rw [h] at this
  exact this

theorem notPrefix_len (p n : By) (h : ¬ p.length ≤ n.length) : p.isPrefixOf n = false := by
  rw [Bool.eq_false_iff, ne_eq, List.isPrefixOf_iff_prefix]
  intro hp
  exact h hp.length_le

theorem ext_take (s : By) (k : Nat) : (ByteArray.mk s.toArray).extract 0 k = ByteArray.mk (s.take k).toArray := by
  apply ByteArray.ext
  simp

set_option maxHeartbeats 800000 in
set_option maxRecDepth 100000 in
theorem litePrefix_ok (s p : By) (w : World) (hs : s.length ≤ 4611686018427387904) (hp : p.length ≤ 4611686018427387904) : Calls Tryz.prog 124 #[.string ⟨s.toArray⟩, .string ⟨p.toArray⟩] w fun e w' => e = .returned (.bool (p.isPrefixOf s)) ∧ w' = w := by
  have hss : (ByteArray.mk s.toArray).size = s.length := by simp [ByteArray.size]
  have hsp : (ByteArray.mk p.toArray).size = p.length := by simp [ByteArray.size]
  by_cases h : p.length ≤ s.length
  · rw [isPrefix_take p s]
    have hE := ext_take s p.length
    go_enter Tryz.func124, Tryz.ntmps124
    go_wp2
    go_ret
    exact ⟨rfl, rfl⟩
  · rw [notPrefix_len p s h]
    go_enter Tryz.func124, Tryz.ntmps124
    go_wp2
    go_ret
    exact ⟨rfl, rfl⟩

set_option maxHeartbeats 800000 in
set_option maxRecDepth 100000 in
theorem hasPrefix_ok (s p : By) (w : World) (hs : s.length ≤ 4611686018427387904) (hp : p.length ≤ 4611686018427387904) : Calls Tryz.prog 102 #[.string ⟨s.toArray⟩, .string ⟨p.toArray⟩] w fun e w' => e = .returned (.bool (p.isPrefixOf s)) ∧ w' = w := by
  have hc := litePrefix_ok s p w hs hp
  go_enter Tryz.func102, Tryz.ntmps102
  go_wp2_with (go_at_call 124; refine hc.mono ?_; rintro e w' ⟨rfl, rfl⟩)
  go_ret
  exact ⟨rfl, rfl⟩

theorem Tryz.infoStr : (Tryz.prog.info? 9).map (fun i => (i.zero, i.size, i.bytes)) = some (some (.string ⟨#[]⟩), 1, 16) := by kernel_rfl

def pre (p : By) (l : List By) : List By := l.filter (fun n => p.isPrefixOf n)

theorem pre_snoc (p : By) (l : List By) (k : Nat) (n : By) (h : l[k]? = some n) : pre p (l.take (k + 1)) = pre p (l.take k) ++ (if p.isPrefixOf n then [n] else []) := by
  rw [List.take_add_one, h]
  unfold pre
  rw [List.filter_append]
  congr 1
  by_cases hp : p.isPrefixOf n = true <;> simp [hp]

theorem pre_le (p : By) (l : List By) : (pre p l).length ≤ l.length := List.length_filter_le _ _

/-- In the loop of List. -/
structure Lq (w wr : World) (nv : Value) (ks : List By) (v : Value) (l : List By) : Prop where
  row : wr.ownsRow 0 9 1 v l.length (l.map encStr)
  new : ∀ g, v.ownBlock = some g → w.heap.size ≤ g
  keep : Kept [] w wr
  names : wr.ownsRow 0 9 1 nv ks.length (ks.map encStr)
  off : ∀ g, v.ownBlock = some g → nv.ownBlock ≠ some g

theorem Lq.start {w w1 : World} {nv : Value} {ks : List By} (hbl : Below w.heap.size w w1) (h : w1.ownsRow 0 9 1 nv ks.length (ks.map encStr)) : Lq w w1 nv ks (.slice none 0 0) [] :=
  ⟨World.ownsRow_nil _ _ _ _, by simp [Value.ownBlock], Kept.of_below hbl, h, by simp [Value.ownBlock]⟩

theorem Lq.step {w wr w5 : World} {nv v v' : Value} {ks l : List By} {n : By} (h : Lq w wr nv ks v l)
    (ho : w5.ownsRow 0 9 1 v' (l.length + 1) (l.map encStr ++ [encStr n])) (hK : ∀ F : Nat → Prop, (∀ k, v.ownBlock = some k → F k) → Keep F wr w5) (hl : ∀ g, v'.ownBlock = some g → v.ownBlock = some g ∨ wr.heap.size ≤ g) : Lq w w5 nv ks v' (l ++ [n]) := by
  have hs := h.keep.size
  have hK5 := hK (fun k => v.ownBlock = some k) (fun _ e => e)
  refine ⟨by simpa using ho, fun g hg => ?_, ?_, own_keeps h.names hK5 (fun g hg e => h.off g e hg), fun g hg hn => ?_⟩
  · rcases hl g hg with e | e
    · exact h.new g e
    · omega
  · exact ⟨hK5.os.trans h.keep.os, hK5.tape.trans h.keep.tape, hK5.output.trans h.keep.output, Nat.le_trans h.keep.size hK5.size, fun i hi _ => (hK5.block i (Nat.lt_of_lt_of_le hi h.keep.size) (fun e => by have := h.new i e; omega)).trans (h.keep.block i hi (by simp))⟩
  · rcases hl g hg with e | e
    · exact h.off g e hn
    · have := (h.names.lt g hn).2; omega

set_option maxHeartbeats 1600000 in
set_option maxRecDepth 100000 in
theorem list_ok {w : World} {p : Nat} {S : Ds} {A : Nat → Nat} {o : Lab} {N : Nat} (h : PD w p S A o) (hB : S.Bd N) (hN : N ≤ 268435456) (q : By) (hq : q.length ≤ 4611686018427387904) : Calls Tryz.prog 72 #[.pointer (some ⟨p, 0, none⟩), encStr q] w fun e w' => ∃ v, e = .returned v ∧ w'.ownsRow 0 9 1 v (S.list q).length ((S.list q).map encStr) ∧ (∀ g, v.ownBlock = some g → w.heap.size ≤ g) ∧ Kept [] w w' := by
  obtain ⟨ms, mh, rv, sv, h⟩ := h
  have hoff := off_ok h
  by_cases hon : S.on = true
  · have hup : S.shown.Up := h.wf.sup
    have hlen : S.shown.length ≤ N := hB.shown h.wf
    have hrs := rising_ok mh A S.shown w h.shown hup (by omega)
    have cm := h.c4
    have HLS : Hid (S.list q = pre q S.shown.keys) := hide (by simp [Ds.list, hon, pre])
    have HNM : Hid (∀ x ∈ S.shown, x.1.length ≤ 112) := hide (fun x hx => isNm_len (h.wf.snm _ hx))
    rw [hon] at hoff
    clear h hB hon hup
    go_enter Tryz.func72, Tryz.ntmps72
    go_wp2_with (first
      | (go_at_call 25; refine hoff.mono ?_; rintro e w' ⟨rfl, hw⟩; obtain rfl := hw.symm; clear hoff)
      | (go_at_call 65; refine hrs.mono ?_; rintro e w1 ⟨nv, rfl, hrow, hbl⟩; obtain ⟨no, nc, rfl, _⟩ := own_shape hrow; have HLP := hide (Lq.start hbl (show w1.ownsRow 0 9 1 _ (S.shown.keys).length (S.shown.keys.map encStr) by simpa [Nm.keys] using ownsRow_base_a hrow (Nat.zero_le _))); clear hrow hbl hrs))
    generalize hLe : S.shown.length = M at *
    have HL := hide hLe
    clear cm hLe
    go_loopw [17, 5, 7] (fun i f _ wr => ∃ k m : Nat, k ≤ M ∧ m ≤ k ∧ i = .int .i64 k ∧ Hid (Lq w wr (.slice no M nc) S.shown.keys f (pre q (S.shown.keys.take k)) ∧ (pre q (S.shown.keys.take k)).length = m) ∧ ∃ fo fc, f = .slice fo m fc) (fun i _ _ wr => M - (intOf i).toNat)
    case atStart => exact ⟨0, 0, by omega, by omega, rfl, hide ⟨by simpa [pre] using HLP.out, by simp [pre]⟩, none, 0, rfl⟩
    case round =>
      clear HLP
      obtain ⟨k, m, hk, hmk, rfl, HR, fo, fc, rfl⟩ := hrel
      obtain ⟨hR, hm⟩ := HR.out
      clear HR
      by_cases hlt : k < M
      · have hlt2 : k < S.shown.length := by rw [HL.out]; exact hlt
        obtain ⟨⟨n, id⟩, hqk⟩ : ∃ q, S.shown[k]? = some q := ⟨S.shown[k], List.getElem?_eq_getElem hlt2⟩
        have hkk : S.shown.keys[k]? = some n := by simp [Nm.keys, hqk]
        have hnl : n.length ≤ 112 := HNM.out _ (List.mem_of_getElem? hqk)
        obtain ⟨g, hg⟩ : ∃ g, no = some ⟨g, 0, none⟩ := by
          rcases hR.names.2 with ⟨e, e2⟩ | ⟨g, cap, cur, e, _⟩
          · have h2 : S.shown.keys.length = S.shown.length := by simp [Nm.keys]
            omega
          · injection e with e _ _; exact ⟨g, e⟩
        subst hg
        have hcell : wr.cell? ⟨g, k, none⟩ = some (encStr n) := by
          have := hR.names.cells (g := g) rfl k (encStr n) (by simp [hkk])
          rwa [add0] at this
        have hps := pre_snoc q S.shown.keys k n hkk
        have hpf := hasPrefix_ok n q wr (by omega) hq
        by_cases hp : q.isPrefixOf n = true
        · rw [if_pos hp] at hps
          rw [hp] at hpf
          obtain ⟨ga, gc, w5, hap, ho5, hK5, hl5⟩ : ∃ g c w', (Builtin.append_ #[57, 57] 57 #[.slice fo m fc, .slice (some ⟨wr.heap.size, 0, none⟩) 1 1]).run Tryz.prog (wr.alloc (.cells #[encStr n] 9)) = .ok (.slice (some ⟨g, 0, none⟩) (m + 1) c) w' ∧ w'.ownsRow 0 9 1 (.slice (some ⟨g, 0, none⟩) (m + 1) c) (m + 1) ((pre q (S.shown.keys.take k)).map encStr ++ [encStr n]) ∧ (∀ F : Nat → Prop, (∀ j, (Value.slice fo m fc).ownBlock = some j → F j) → Keep F wr w') ∧ (∀ g', (Value.slice (some ⟨g, 0, none⟩) (m + 1) c).ownBlock = some g' → (Value.slice fo m fc).ownBlock = some g' ∨ wr.heap.size ≤ g') := by
            have hr4 := hR.row
            rw [hm] at hr4
            obtain ⟨g, c, w', e1, e2, e3, e4, _⟩ := run_app (P := Tryz.prog) wr 57 57 9 Tryz.underlying57 Tryz.infoStr rfl (by decide) _ m _ hr4 [encStr n] rfl (fun z hz => by simp only [List.mem_singleton] at hz; rw [hz]; rfl) (by unfold maxLen; omega) (by omega)
            refine ⟨g, c, w', e1, e2, e3, fun g' hg' => ?_⟩
            simp only [Value.ownBlock, Option.some.injEq] at hg'
            subst hg'
            rcases e4 with e | e
            · exact .inl e.symm
            · exact .inr e
          have H5 : Hid (Lq w w5 (.slice (some ⟨g, 0, none⟩) M nc) S.shown.keys (.slice (some ⟨ga, 0, none⟩) (m + 1) gc) (pre q (S.shown.keys.take (k + 1))) ∧ (pre q (S.shown.keys.take (k + 1))).length = m + 1) := hide (by
            rw [hps]
            exact ⟨hR.step (by rw [hm]; exact ho5) hK5 hl5, by simp [hm]⟩)
          clear hR hm hps hp hqk hkk ho5 hK5 hl5
          go_wp2_with (first
            | (go_at_call 102; refine hpf.mono ?_; rintro e w' ⟨rfl, hw⟩; obtain rfl := hw.symm; clear hpf)
            | (at_builtin; refine wpList_app_run rfl _ _ 57 57 rfl _ _ rfl rfl _ _ hap ?_))
          go_roundw
          case rel => exact ⟨k + 1, m + 1, by omega, by omega, by go_num, H5, _, _, rfl⟩
          case measure => simp [intOf]; omega
        · simp only [Bool.not_eq_true] at hp
          rw [if_neg (by simp [hp]), List.append_nil] at hps
          rw [hp] at hpf
          have H5 : Hid (Lq w wr (.slice (some ⟨g, 0, none⟩) M nc) S.shown.keys (.slice fo m fc) (pre q (S.shown.keys.take (k + 1))) ∧ (pre q (S.shown.keys.take (k + 1))).length = m) := hide (by rw [hps]; exact ⟨hR, hm⟩)
          clear hR hm hps hp hqk hkk
          go_wp2_with (go_at_call 102; refine hpf.mono ?_; rintro e w' ⟨rfl, hw⟩; obtain rfl := hw.symm; clear hpf)
          go_roundw
          case rel => exact ⟨k + 1, m, by omega, by omega, by go_num, H5, _, _, rfl⟩
          case measure => simp [intOf]; omega
      · have hkM : k = M := by omega
        subst hkM
        have HE : Hid (pre q (S.shown.keys.take k) = S.list q) := hide (by rw [HLS.out, List.take_of_length_le (by simp [Nm.keys]; rw [HL.out]; omega)])
        have HRR := hide hR
        clear hR hm
        go_wp2
        go_ret
        rw [HE.out] at HRR
        exact ⟨_, rfl, HRR.out.row, HRR.out.new, HRR.out.keep⟩
  · simp only [Bool.not_eq_true] at hon
    rw [hon] at hoff
    have HLS : Hid (S.list q = []) := hide (by simp [Ds.list, hon])
    clear h hB hon
    go_enter Tryz.func72, Tryz.ntmps72
    go_wp2_with (go_at_call 25; refine hoff.mono ?_; rintro e w' ⟨rfl, hw⟩; obtain rfl := hw.symm; clear hoff)
    go_ret
    rw [HLS.out]
    exact ⟨_, rfl, World.ownsRow_nil _ _ _ _, by simp [Value.ownBlock, Array.getD], Kept.refl _ _⟩

theorem list_at {w0 w : World} {p : Nat} {S : Ds} {N : Nat} (h : At w0 w p S N) (hN : N ≤ 268435456) (q : By) (hq : q.length ≤ 4611686018427387904) : Calls Tryz.prog 72 #[.pointer (some ⟨p, 0, none⟩), encStr q] w fun e w' => ∃ v, e = .returned v ∧ w'.ownsRow 0 9 1 v (S.list q).length ((S.list q).map encStr) ∧ (∀ g, v.ownBlock = some g → w.heap.size ≤ g) ∧ Kept [] w w' := by
  obtain ⟨A, o, hP, ho, hw, hb⟩ := h
  exact list_ok hP hb hN q hq

end Go.Proofs.YtemlbmamcbmnjaaGreatDoor
