import Derived.Test.YteckiednnaianaaGreatHpp
import Derived.Test.YteckiednnaianaaGreatHgp
import Derived.Test.YteckiednnaianaaGreatGvp
namespace Go.Proofs.YteckiednnaianaaGreat
section
open Go.RowKit Dsk
set_option linter.unusedVariables false
set_option linter.unusedSimpArgs false
theorem isPrefix_take (p n : By) : p.isPrefixOf n = (n.take p.length == p) := by
 rw [Bool.eq_iff_iff, List.isPrefixOf_iff_prefix, beq_iff_eq]
 refine ⟨fun h => by obtain ⟨t, rfl⟩ := h; simp, fun h => ⟨n.drop p.length, ?_⟩⟩
 have := List.take_append_drop p.length n
 rw [h] at this
 exact this
theorem notPrefix_len (p n : By) (h : ¬ p.length ≤ n.length) : p.isPrefixOf n = false := by
 rw [Bool.eq_false_iff, ne_eq, List.isPrefixOf_iff_prefix]
 intro hp
 exact h hp.length_le
theorem ext_take (s : By) (k : Nat) : (ByteArray.mk s.toArray).extract 0 k = ByteArray.mk (s.take k).toArray := by
 apply ByteArray.ext
 simp
set_option maxHeartbeats 800000 in
set_option maxRecDepth 100000 in
theorem litePrefix_ok (s p : By) (w : World) (hs : s.length ≤ 4611686018427387904) (hp : p.length ≤ 4611686018427387904) : Calls Tryz.prog 104 #[.string ⟨s.toArray⟩, .string ⟨p.toArray⟩] w fun e w' => e = .returned (.bool (p.isPrefixOf s)) ∧ w' = w := by
 have hss : (ByteArray.mk s.toArray).size = s.length := by simp [ByteArray.size]
 have hsp : (ByteArray.mk p.toArray).size = p.length := by simp [ByteArray.size]
 by_cases h : p.length ≤ s.length
 ·rw [isPrefix_take p s]
  have hE := ext_take s p.length
  go_enter Tryz.func104, Tryz.ntmps104
  go_wp2
  go_ret
  exact ⟨rfl, rfl⟩
 ·rw [notPrefix_len p s h]
  go_enter Tryz.func104, Tryz.ntmps104
  go_wp2
  go_ret
  exact ⟨rfl, rfl⟩
set_option maxHeartbeats 800000 in
set_option maxRecDepth 100000 in
theorem hasPrefix_ok (s p : By) (w : World) (hs : s.length ≤ 4611686018427387904) (hp : p.length ≤ 4611686018427387904) : Calls Tryz.prog 78 #[.string ⟨s.toArray⟩, .string ⟨p.toArray⟩] w fun e w' => e = .returned (.bool (p.isPrefixOf s)) ∧ w' = w := by
 have hc := litePrefix_ok s p w hs hp
 go_enter Tryz.func78, Tryz.ntmps78
 go_wp2_with (go_at_call 104; refine hc.mono ?_; rintro e w' ⟨rfl, rfl⟩)
 go_ret
 exact ⟨rfl, rfl⟩
theorem Tryz.infoStr : (Tryz.prog.info? 9).map (fun i => (i.zero, i.size, i.bytes)) = some (some (.string ⟨#[]⟩), 1, 16) := by kernel_rfl
def pre (p : By) (l : List By) : List By := l.filter (fun n => p.isPrefixOf n)
theorem pre_snoc (p : By) (l : List By) (k : Nat) (n : By) (h : l[k]? = some n) : pre p (l.take (k + 1)) = pre p (l.take k) ++ (if p.isPrefixOf n then [n] else []) := by
 rw [List.take_add_one, h]
 unfold pre
 rw [List.filter_append]
 congr 1
 by_cases hp : p.isPrefixOf n = true <;> simp [hp]
structure Lq (w wr : World) (nv : Value) (ks : List By) (v : Value) (l : List By) : Prop where
 row : wr.ownsRow 0 9 1 v l.length (l.map encStr)
 new : ∀ g, v.ownBlock = some g → w.heap.size ≤ g
 keep : Kept [] w wr
 names : wr.ownsRow 0 9 1 nv ks.length (ks.map encStr)
 off : ∀ g, v.ownBlock = some g → nv.ownBlock ≠ some g
theorem Lq.start {w w1 : World} {nv : Value} {ks : List By} (hbl : Below w.heap.size w w1) (h : w1.ownsRow 0 9 1 nv ks.length (ks.map encStr)) : Lq w w1 nv ks (.slice none 0 0) [] :=
 ⟨World.ownsRow_nil _ _ _ _, by simp [Value.ownBlock], Kept.of_below hbl, h, by simp [Value.ownBlock]⟩
theorem Lq.step {w wr w5 : World} {nv v v' : Value} {ks l : List By} {n : By} (h : Lq w wr nv ks v l)
  (ho : w5.ownsRow 0 9 1 v' (l.length + 1) (l.map encStr ++ [encStr n])) (hK : ∀ F : Nat → Prop, (∀ k, v.ownBlock = some k → F k) → Keep F wr w5) (hl : ∀ g, v'.ownBlock = some g → v.ownBlock = some g ∨ wr.heap.size ≤ g) : Lq w w5 nv ks v' (l ++ [n]) := by
 have hs := h.keep.size
 have hK5 := hK (fun k => v.ownBlock = some k) (fun _ e => e)
 refine ⟨by simpa using ho, fun g hg => ?_, ?_, own_keeps h.names hK5 (fun g hg e => h.off g e hg), fun g hg hn => ?_⟩
 ·rcases hl g hg with e | e
  ·exact h.new g e
  ·omega
 ·exact ⟨hK5.os.trans h.keep.os, hK5.tape.trans h.keep.tape, hK5.output.trans h.keep.output, Nat.le_trans h.keep.size hK5.size, fun i hi _ => (hK5.block i (Nat.lt_of_lt_of_le hi h.keep.size) (fun e => by have := h.new i e; omega)).trans (h.keep.block i hi (by simp))⟩
 ·rcases hl g hg with e | e
  ·exact h.off g e hn
  ·have := (h.names.lt g hn).2; omega
set_option maxHeartbeats 1600000 in
set_option maxRecDepth 100000 in
theorem list_ok {w : World} {p : Nat} {S : Ds} {A : Nat → Nat} {o : Lab} {N : Nat} (h : PD w p S A o) (hB : S.Bd N) (hN : N ≤ 268435456) (q : By) (hq : q.length ≤ 4611686018427387904) : Calls Tryz.prog 49 #[.pointer (some ⟨p, 0, none⟩), encStr q] w fun e w' => ∃ v, e = .returned v ∧ w'.ownsRow 0 9 1 v (S.list q).length ((S.list q).map encStr) ∧ (∀ g, v.ownBlock = some g → w.heap.size ≤ g) ∧ Kept [] w w' := by
 obtain ⟨ms, mh, rv, sv, h⟩ := h
 have hoff := off_ok h
 by_cases hon : S.on = true
 ·have hup : S.shown.Up := h.wf.sup
  have hlen : S.shown.length ≤ N := hB.shown h.wf
  have hrs := rising_ok mh A S.shown w h.shown hup (by omega)
  have cm := h.c4
  have HLS : Hid (S.list q = pre q S.shown.keys) := hide (by simp [Ds.list, hon, pre])
  have HNM : Hid (∀ x ∈ S.shown, x.1.length ≤ 112) := hide (fun x hx => isNm_len (h.wf.snm _ hx))
  rw [hon] at hoff
  clear h hB hon hup
  go_enter Tryz.func49, Tryz.ntmps49
  go_wp2_with (first
   | (go_at_call 36; refine hoff.mono ?_; rintro e w' ⟨rfl, hw⟩; obtain rfl := hw.symm; clear hoff)
   | (go_at_call 76; refine hrs.mono ?_; rintro e w1 ⟨nv, rfl, hrow, hbl⟩; obtain ⟨no, nc, rfl, _⟩ := own_shape hrow; have HLP := hide (Lq.start hbl (show w1.ownsRow 0 9 1 _ (S.shown.keys).length (S.shown.keys.map encStr) by simpa [Nm.keys] using ownsRow_base_a hrow (Nat.zero_le _))); clear hrow hbl hrs))
  generalize hLe : S.shown.length = M at *
  have HL := hide hLe
  clear cm hLe
  go_loopw [17, 5, 7] (fun i f _ wr => ∃ k m : Nat, k ≤ M ∧ m ≤ k ∧ i = .int .i64 k ∧ Hid (Lq w wr (.slice no M nc) S.shown.keys f (pre q (S.shown.keys.take k)) ∧ (pre q (S.shown.keys.take k)).length = m) ∧ ∃ fo fc, f = .slice fo m fc) (fun i _ _ wr => M - (intOf i).toNat)
  case atStart => exact ⟨0, 0, by omega, by omega, rfl, hide ⟨by simpa [pre] using HLP.out, by simp [pre]⟩, none, 0, rfl⟩
  case round =>
   clear HLP
   obtain ⟨k, m, hk, hmk, rfl, HR, fo, fc, rfl⟩ := hrel
   obtain ⟨hR, hm⟩ := HR.out
   clear HR
   by_cases hlt : k < M
   ·have hlt2 : k < S.shown.length := by rw [HL.out]; exact hlt
    obtain ⟨⟨n, id⟩, hqk⟩ : ∃ q, S.shown[k]? = some q := ⟨S.shown[k], List.getElem?_eq_getElem hlt2⟩
    have hkk : S.shown.keys[k]? = some n := by simp [Nm.keys, hqk]
    have hnl : n.length ≤ 112 := HNM.out _ (List.mem_of_getElem? hqk)
    obtain ⟨g, hg⟩ : ∃ g, no = some ⟨g, 0, none⟩ := by
     rcases hR.names.2 with ⟨e, e2⟩ | ⟨g, cap, cur, e, _⟩
     ·have h2 : S.shown.keys.length = S.shown.length := by simp [Nm.keys]
      omega
     ·injection e with e _ _; exact ⟨g, e⟩
    subst hg
    have hcell : wr.cell? ⟨g, k, none⟩ = some (encStr n) := by
     have := hR.names.cells (g := g) rfl k (encStr n) (by simp [hkk])
     rwa [add0] at this
    have hps := pre_snoc q S.shown.keys k n hkk
    have hpf := hasPrefix_ok n q wr (by omega) hq
    by_cases hp : q.isPrefixOf n = true
    ·rw [if_pos hp] at hps
     rw [hp] at hpf
     obtain ⟨ga, gc, w5, hap, ho5, hK5, hl5⟩ : ∃ g c w', (Builtin.append_ #[99, 99] 99 #[.slice fo m fc, .slice (some ⟨wr.heap.size, 0, none⟩) 1 1]).run Tryz.prog (wr.alloc (.cells #[encStr n] 9)) = .ok (.slice (some ⟨g, 0, none⟩) (m + 1) c) w' ∧ w'.ownsRow 0 9 1 (.slice (some ⟨g, 0, none⟩) (m + 1) c) (m + 1) ((pre q (S.shown.keys.take k)).map encStr ++ [encStr n]) ∧ (∀ F : Nat → Prop, (∀ j, (Value.slice fo m fc).ownBlock = some j → F j) → Keep F wr w') ∧ (∀ g', (Value.slice (some ⟨g, 0, none⟩) (m + 1) c).ownBlock = some g' → (Value.slice fo m fc).ownBlock = some g' ∨ wr.heap.size ≤ g') := by
      have hr4 := hR.row
      rw [hm] at hr4
      obtain ⟨g, c, w', e1, e2, e3, e4, _⟩ := run_app (P := Tryz.prog) wr 99 99 9 Tryz.underlying99 Tryz.infoStr rfl (by decide) _ m _ hr4 [encStr n] rfl (fun z hz => by simp only [List.mem_singleton] at hz; rw [hz]; rfl) (by unfold maxLen; omega) (by omega)
      refine ⟨g, c, w', e1, e2, e3, fun g' hg' => ?_⟩
      simp only [Value.ownBlock, Option.some.injEq] at hg'
      subst hg'
      rcases e4 with e | e
      ·exact .inl e.symm
      ·exact .inr e
     have H5 : Hid (Lq w w5 (.slice (some ⟨g, 0, none⟩) M nc) S.shown.keys (.slice (some ⟨ga, 0, none⟩) (m + 1) gc) (pre q (S.shown.keys.take (k + 1))) ∧ (pre q (S.shown.keys.take (k + 1))).length = m + 1) := hide (by
      rw [hps]
      exact ⟨hR.step (by rw [hm]; exact ho5) hK5 hl5, by simp [hm]⟩)
     clear hR hm hps hp hqk hkk ho5 hK5 hl5
     go_wp2_with (first
      | (go_at_call 78; refine hpf.mono ?_; rintro e w' ⟨rfl, hw⟩; obtain rfl := hw.symm; clear hpf)
      | (at_builtin; refine wpList_app_run rfl _ _ 99 99 rfl _ _ rfl rfl _ _ hap ?_))
     go_roundw
     case rel => exact ⟨k + 1, m + 1, by omega, by omega, by go_num, H5, _, _, rfl⟩
     case measure => simp [intOf]; omega
    ·simp only [Bool.not_eq_true] at hp
     rw [if_neg (by simp [hp]), List.append_nil] at hps
     rw [hp] at hpf
     have H5 : Hid (Lq w wr (.slice (some ⟨g, 0, none⟩) M nc) S.shown.keys (.slice fo m fc) (pre q (S.shown.keys.take (k + 1))) ∧ (pre q (S.shown.keys.take (k + 1))).length = m) := hide (by rw [hps]; exact ⟨hR, hm⟩)
     clear hR hm hps hp hqk hkk
     go_wp2_with (go_at_call 78; refine hpf.mono ?_; rintro e w' ⟨rfl, hw⟩; obtain rfl := hw.symm; clear hpf)
     go_roundw
     case rel => exact ⟨k + 1, m, by omega, by omega, by go_num, H5, _, _, rfl⟩
     case measure => simp [intOf]; omega
   ·have hkM : k = M := by omega
    subst hkM
    have HE : Hid (pre q (S.shown.keys.take k) = S.list q) := hide (by rw [HLS.out, List.take_of_length_le (by simp [Nm.keys]; rw [HL.out]; omega)])
    have HRR := hide hR
    clear hR hm
    go_wp2
    go_ret
    rw [HE.out] at HRR
    exact ⟨_, rfl, HRR.out.row, HRR.out.new, HRR.out.keep⟩
 ·simp only [Bool.not_eq_true] at hon
  rw [hon] at hoff
  have HLS : Hid (S.list q = []) := hide (by simp [Ds.list, hon])
  clear h hB hon
  go_enter Tryz.func49, Tryz.ntmps49
  go_wp2_with (go_at_call 36; refine hoff.mono ?_; rintro e w' ⟨rfl, hw⟩; obtain rfl := hw.symm; clear hoff)
  go_ret
  rw [HLS.out]
  exact ⟨_, rfl, World.ownsRow_nil _ _ _ _, by simp [Value.ownBlock, Array.getD], Kept.refl _ _⟩
end

section
open Go.RowKit Dsk
set_option linter.unusedVariables false
set_option linter.unusedSimpArgs false
theorem okByte_nat (c : UInt8) : okByte c = true ↔ ((97 ≤ c.toNat ∧ c.toNat ≤ 122) ∨ (48 ≤ c.toNat ∧ c.toNat ≤ 57) ∨ c.toNat = 46 ∨ c.toNat = 45 ∨ c.toNat = 95 ∨ c.toNat = 43) := by
 have h : ∀ n : Fin 256, okByte (UInt8.ofNat n.val) = decide ((97 ≤ n.val ∧ n.val ≤ 122) ∨ (48 ≤ n.val ∧ n.val ≤ 57) ∨ n.val = 46 ∨ n.val = 45 ∨ n.val = 95 ∨ n.val = 43) := by decide +kernel
 have h2 := h ⟨c.toNat, c.toNat_lt⟩
 simp only [UInt8.ofNat_toNat] at h2
 rw [h2, decide_eq_true_eq]
set_option maxHeartbeats 1600000 in
set_option maxRecDepth 100000 in
theorem risName_ok (t : By) (w : World) (hm : t.length ≤ 4611686018427387904) : Calls Tryz.prog 18 #[.string ⟨t.toArray⟩] w fun e w' => e = .returned (.bool (isNm t)) ∧ w' = w := by
 have hbs : (ByteArray.mk t.toArray).size = t.length := by simp [ByteArray.size]
 have hsz : t.toArray.size = t.length := by simp
 go_enter Tryz.func18, Tryz.ntmps18
 by_cases h1 : t.length < 1
 ·have hf : isNm t = false := by unfold isNm; simp only [Bool.and_eq_false_iff, decide_eq_false_iff_not]; left; left; omega
  have HF := hide hf
  clear hf
  go_wp2
  go_ret
  exact ⟨by rw [HF.out]; rfl, rfl⟩
 by_cases h2 : 112 < t.length
 ·have hf : isNm t = false := by unfold isNm; simp only [Bool.and_eq_false_iff, decide_eq_false_iff_not]; left; right; omega
  have HF := hide hf
  clear hf
  go_wp2
  go_ret
  exact ⟨by rw [HF.out]; rfl, rfl⟩
 have hall : isNm t = t.all okByte := by unfold isNm; simp [show 1 ≤ t.length by omega, show t.length ≤ 112 by omega]
 have HA := hide hall
 clear hall
 go_upto_region 4 with (fail)
 go_loopw [3] (fun i wr => ∃ k : Nat, k ≤ t.length ∧ i = .int .i64 k ∧ wr = w ∧ Hid ((t.take k).all okByte = true)) (fun i wr => t.length - (intOf i).toNat)
 case atStart => exact ⟨0, by omega, rfl, rfl, by show _ = _; simp⟩
 case round =>
  obtain ⟨k, hk, rfl, hww, HR⟩ := hrel
  obtain rfl := hww.symm
  by_cases hlt : k < t.length
  ·have s0 := fun W => Tryz.signAt t k hlt W
   have HG : Hid (t.take (k + 1) = t.take k ++ [t.getD k 0]) := by
    show _ = _
    rw [List.take_succ_eq_append_getElem hlt]
    simp [List.getElem?_eq_getElem hlt]
   have HM : Hid (t.getD k 0 ∈ t) := by
    show _ ∈ _
    simp [List.getElem?_eq_getElem hlt]
   generalize t.getD k 0 = c at s0 HG HM
   have hcb : c.toNat < 256 := c.toNat_lt
   have HOK : Hid (okByte c = true ↔ ((97 ≤ c.toNat ∧ c.toNat ≤ 122) ∨ (48 ≤ c.toNat ∧ c.toNat ≤ 57) ∨ c.toNat = 46 ∨ c.toNat = 45 ∨ c.toNat = 95 ∨ c.toNat = 43)) := hide (okByte_nat c)
   have HYes : Hid (okByte c = true → (t.take (k + 1)).all okByte = true) := hide (fun h => by rw [HG.out, List.all_append, HR.out]; simp [h])
   have HNo : Hid (okByte c = false → isNm t = false) := hide (fun h => by rw [HA.out]; exact List.all_eq_false.2 ⟨c, HM.out, by simp [h]⟩)
   generalize hx : c.toNat = x at *
   have hcs : ((97 ≤ x ∧ x ≤ 122) ∨ (122 < x) ∨ (x = 95) ∨ (57 < x ∧ x < 97 ∧ x ≠ 95) ∨ (48 ≤ x ∧ x ≤ 57) ∨ (x = 46) ∨ (x = 45) ∨ (x = 43) ∨ (x < 48 ∧ x ≠ 46 ∧ x ≠ 45 ∧ x ≠ 43)) := by omega
   have HX := hide hx
   clear HG HM HR hx
   rcases hcs with hq | hq | hq | hq | hq | hq | hq | hq | hq
   ·have a97 : decide ((97 : Int) ≤ (x : Int)) = true := by simp; omega
    have b122 : decide ((x : Int) ≤ 122) = true := by simp; omega
    have HT : Hid ((t.take (k + 1)).all okByte = true) := hide (HYes.out (HOK.out.2 (by omega)))
    clear hq HYes HNo HOK
    as_aux_lemma =>
     go_wp2
     go_roundw
     case rel => exact ⟨k + 1, by omega, by go_num, trivial, HT⟩
     case measure => simp [intOf]; omega
   ·have a97 : decide ((97 : Int) ≤ (x : Int)) = true := by simp; omega
    have b122 : decide ((x : Int) ≤ 122) = false := by simp; omega
    have a48 : decide ((48 : Int) ≤ (x : Int)) = true := by simp; omega
    have b57 : decide ((x : Int) ≤ 57) = false := by simp; omega
    have q46 : ((x : Int) == 46) = false := by simp; omega
    have q45 : ((x : Int) == 45) = false := by simp; omega
    have q95 : ((x : Int) == 95) = false := by simp; omega
    have q43 : ((x : Int) == 43) = false := by simp; omega
    have HF : Hid (isNm t = false) := hide (HNo.out (by cases h : okByte c; rfl; exact absurd (HOK.out.1 h) (by omega)))
    clear hq HYes HNo HOK
    as_aux_lemma =>
     go_wp2
     go_ret
     exact ⟨by rw [HF.out]; rfl, rfl⟩
   ·have a97 : decide ((97 : Int) ≤ (x : Int)) = false := by simp; omega
    have a48 : decide ((48 : Int) ≤ (x : Int)) = true := by simp; omega
    have b57 : decide ((x : Int) ≤ 57) = false := by simp; omega
    have q46 : ((x : Int) == 46) = false := by simp; omega
    have q45 : ((x : Int) == 45) = false := by simp; omega
    have q95 : ((x : Int) == 95) = true := by simp; omega
    have HT : Hid ((t.take (k + 1)).all okByte = true) := hide (HYes.out (HOK.out.2 (by omega)))
    clear hq HYes HNo HOK
    as_aux_lemma =>
     go_wp2
     go_roundw
     case rel => exact ⟨k + 1, by omega, by go_num, trivial, HT⟩
     case measure => simp [intOf]; omega
   ·have a97 : decide ((97 : Int) ≤ (x : Int)) = false := by simp; omega
    have a48 : decide ((48 : Int) ≤ (x : Int)) = true := by simp; omega
    have b57 : decide ((x : Int) ≤ 57) = false := by simp; omega
    have q46 : ((x : Int) == 46) = false := by simp; omega
    have q45 : ((x : Int) == 45) = false := by simp; omega
    have q95 : ((x : Int) == 95) = false := by simp; omega
    have q43 : ((x : Int) == 43) = false := by simp; omega
    have HF : Hid (isNm t = false) := hide (HNo.out (by cases h : okByte c; rfl; exact absurd (HOK.out.1 h) (by omega)))
    clear hq HYes HNo HOK
    as_aux_lemma =>
     go_wp2
     go_ret
     exact ⟨by rw [HF.out]; rfl, rfl⟩
   ·have a97 : decide ((97 : Int) ≤ (x : Int)) = false := by simp; omega
    have a48 : decide ((48 : Int) ≤ (x : Int)) = true := by simp; omega
    have b57 : decide ((x : Int) ≤ 57) = true := by simp; omega
    have HT : Hid ((t.take (k + 1)).all okByte = true) := hide (HYes.out (HOK.out.2 (by omega)))
    clear hq HYes HNo HOK
    as_aux_lemma =>
     go_wp2
     go_roundw
     case rel => exact ⟨k + 1, by omega, by go_num, trivial, HT⟩
     case measure => simp [intOf]; omega
   ·have a97 : decide ((97 : Int) ≤ (x : Int)) = false := by simp; omega
    have a48 : decide ((48 : Int) ≤ (x : Int)) = false := by simp; omega
    have q46 : ((x : Int) == 46) = true := by simp; omega
    have HT : Hid ((t.take (k + 1)).all okByte = true) := hide (HYes.out (HOK.out.2 (by omega)))
    clear hq HYes HNo HOK
    as_aux_lemma =>
     go_wp2
     go_roundw
     case rel => exact ⟨k + 1, by omega, by go_num, trivial, HT⟩
     case measure => simp [intOf]; omega
   ·have a97 : decide ((97 : Int) ≤ (x : Int)) = false := by simp; omega
    have a48 : decide ((48 : Int) ≤ (x : Int)) = false := by simp; omega
    have q46 : ((x : Int) == 46) = false := by simp; omega
    have q45 : ((x : Int) == 45) = true := by simp; omega
    have HT : Hid ((t.take (k + 1)).all okByte = true) := hide (HYes.out (HOK.out.2 (by omega)))
    clear hq HYes HNo HOK
    as_aux_lemma =>
     go_wp2
     go_roundw
     case rel => exact ⟨k + 1, by omega, by go_num, trivial, HT⟩
     case measure => simp [intOf]; omega
   ·have a97 : decide ((97 : Int) ≤ (x : Int)) = false := by simp; omega
    have a48 : decide ((48 : Int) ≤ (x : Int)) = false := by simp; omega
    have q46 : ((x : Int) == 46) = false := by simp; omega
    have q45 : ((x : Int) == 45) = false := by simp; omega
    have q95 : ((x : Int) == 95) = false := by simp; omega
    have q43 : ((x : Int) == 43) = true := by simp; omega
    have HT : Hid ((t.take (k + 1)).all okByte = true) := hide (HYes.out (HOK.out.2 (by omega)))
    clear hq HYes HNo HOK
    as_aux_lemma =>
     go_wp2
     go_roundw
     case rel => exact ⟨k + 1, by omega, by go_num, trivial, HT⟩
     case measure => simp [intOf]; omega
   ·have a97 : decide ((97 : Int) ≤ (x : Int)) = false := by simp; omega
    have a48 : decide ((48 : Int) ≤ (x : Int)) = false := by simp; omega
    have q46 : ((x : Int) == 46) = false := by simp; omega
    have q45 : ((x : Int) == 45) = false := by simp; omega
    have q95 : ((x : Int) == 95) = false := by simp; omega
    have q43 : ((x : Int) == 43) = false := by simp; omega
    have HF : Hid (isNm t = false) := hide (HNo.out (by cases h : okByte c; rfl; exact absurd (HOK.out.1 h) (by omega)))
    clear hq HYes HNo HOK
    as_aux_lemma =>
     go_wp2
     go_ret
     exact ⟨by rw [HF.out]; rfl, rfl⟩
  ·have HE : Hid (isNm t = true) := hide (by rw [HA.out]; have := HR.out; rw [List.take_of_length_le (by omega)] at this; exact this)
   go_wp2
   go_ret
   exact ⟨by rw [HE.out]; rfl, rfl⟩
end

end Go.Proofs.YteckiednnaianaaGreat
