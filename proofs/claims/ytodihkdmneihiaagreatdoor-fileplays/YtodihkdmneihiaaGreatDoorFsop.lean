import Derived.Test.YtodihkdmneihiaaGreatDoorRfcp
import Derived.Test.YtodihkdmneihiaaGreatDoorFqbp
import Derived.Test.YtodihkdmneihiaaGreatDoorFqdp
import Derived.Test.YtodihkdmneihiaaGreatDoorFsip
namespace Go.Proofs.YtodihkdmneihiaaGreatDoor
section
open Go.RowKit Dsk
set_option linter.unusedVariables false
set_option linter.unusedSimpArgs false
namespace Dsk
theorem del_len (l : Nm) (n : By) : (l.del n).length ≤ l.length := List.length_filter_le _ _
theorem ins_len (x : By × Nat) (l : Nm) : (Nm.ins x l).length = l.length + 1 := by
 induction l with
 | nil => rfl
 | cons y r ih =>
  unfold Nm.ins
  split
  ·rfl
  ·simp [ih]
theorem put_len (l : Nm) (n : By) (k : Nat) : (l.put n k).length ≤ l.length + 1 := by
 unfold Nm.put
 rw [ins_len]
 have := del_len l n
 omega
structure Sm (S : Ds) : Prop where
 wf : S.Wf
 now : S.shown.length ≤ 256
 any : ∀ j, (runN S.safe (S.row.take j)).length ≤ 256
theorem Sm.same {S D : Ds} (h : Sm S) (hw : D.Wf) (h1 : D.safe = S.safe) (h2 : D.row = S.row) (h3 : D.shown = S.shown) : Sm D := ⟨hw, by rw [h3]; exact h.now, fun j => by rw [h1, h2]; exact h.any j⟩
theorem Sm.add {S D : Ds} (h : Sm S) (hw : D.Wf) (c : Nc) (h1 : D.safe = S.safe) (h2 : D.row = S.row ++ [c]) (h3 : D.shown = c.apply S.shown) (hl : (c.apply S.shown).length ≤ 256) : Sm D := by
 refine ⟨hw, by rw [h3]; exact hl, fun j => ?_⟩
 rw [h1, h2]
 by_cases hj : j ≤ S.row.length
 ·rw [List.take_append_of_le_length hj]
  exact h.any j
 ·rw [List.take_of_length_le (by simp; omega), runN_app, ← h.wf.shown]
  exact hl
theorem Sm.fresh {r : Nat} (hw : (Ds.fresh r).Wf) : Sm (Ds.fresh r) := ⟨hw, by simp [Ds.fresh], fun j => by simp [Ds.fresh, runN]⟩
theorem Sm.list {S : Ds} (h : Sm S) (q : By) : (S.list q).length ≤ 256 := by
 have := h.now
 unfold Ds.list
 split
 ·exact Nat.le_trans (List.length_filter_le _ _) (by simpa [Nm.keys] using this)
 ·exact Nat.zero_le _
theorem Sm.create {S : Ds} (h : Sm S) (n : By) : Sm (S.create n).2 := by
 have hw := h.wf.create n
 unfold Ds.create at hw ⊢
 split
 ·exact h
 ·split
  ·exact h
  ·split
   ·rename_i a b c
    rw [if_neg a, if_neg b, if_pos c] at hw
    refine h.add hw (.mk n S.nx) rfl rfl rfl ?_
    have h1 : S.shown.length < 256 := by
     unfold Ds.refusedCreate at c
     by_cases g : 256 ≤ S.shown.length
     ·rw [if_pos g] at c; cases c
     ·omega
    have := put_len S.shown n S.nx
    show (S.shown.put n S.nx).length ≤ 256
    omega
   ·rename_i a b c
    rw [if_neg a, if_neg b, if_neg c] at hw
    exact h.same hw rfl rfl rfl
theorem Sm.remove {S : Ds} (h : Sm S) (n : By) : Sm (S.remove n).2 := by
 have hw := h.wf.remove n
 unfold Ds.remove at hw ⊢
 split
 ·exact h
 ·rename_i a
  rw [if_neg a] at hw
  refine h.add hw (.tk n) rfl rfl rfl ?_
  exact Nat.le_trans (del_len _ _) h.now
theorem Sm.syncNames {S : Ds} (h : Sm S) : Sm S.syncNames.2 := by
 have hw := h.wf.syncNames
 unfold Ds.syncNames at hw ⊢
 split
 ·rename_i a
  rw [if_pos a] at hw
  split
  ·rename_i b
   rw [if_pos b] at hw
   exact h.same hw rfl rfl rfl
  ·rename_i b
   rw [if_neg b] at hw
   exact ⟨hw, h.now, fun j => by show (runN S.shown (List.take j [])).length ≤ 256; rw [List.take_nil]; exact h.now⟩
 ·exact h
theorem Sm.crash {S : Ds} (h : Sm S) (ps : List Int) : Sm (S.crash ps) :=
 ⟨h.wf.crash ps, h.any _, fun j => by show (runN (S.crashNm ps) (List.take j [])).length ≤ 256; rw [List.take_nil]; exact h.any _⟩
theorem Sm.bnd {r : Int × Ds} {f : Ds → Int × Ds} (h : Sm r.2) (hf : ∀ T, Sm T → Sm (f T).2) : Sm (Dsk.bnd r f).2 := by
 unfold Dsk.bnd
 split
 ·exact hf _ h
 ·exact h
theorem Sm.drop {S : Ds} (h : Sm S) (n : By) : Sm (S.drop n).2 := by
 unfold Ds.drop
 split
 ·split
  ·exact (h.remove n).syncNames
  ·exact h.remove n
 ·exact h
theorem Sm.rms {S : Ds} (h : Sm S) (ns : List By) : Sm (S.rms ns).2 := by
 unfold Ds.rms
 have : ∀ (r : Int × Ds), Sm r.2 → Sm (ns.foldl (fun r n => Dsk.bnd r fun T => T.remove n) r).2 := by
  induction ns with
  | nil => exact fun r hr => hr
  | cons n ns ih => exact fun r hr => ih _ (Sm.bnd hr (fun T hT => hT.remove n))
 exact this (0, S) h
theorem Sm.rclean {S : Ds} (h : Sm S) (q : By) : Sm (S.rclean q).2 := by
 unfold Ds.rclean
 split
 ·refine Sm.bnd (h.rms _) (fun T hT => ?_)
  split
  ·exact hT
  ·exact hT.syncNames
 ·exact h
theorem Sm.append {S : Ds} (h : Sm S) (n d : By) : Sm (S.append n d).2 := by
 have hw := h.wf.append n d
 unfold Ds.append Ds.write at hw ⊢
 split
 ·exact h
 ·rename_i a
  rw [if_neg a] at hw
  split
  ·rename_i b
   rw [if_pos b] at hw
   exact h.same hw rfl rfl rfl
  ·rename_i b
   rw [if_neg b] at hw
   exact h.same hw rfl rfl rfl
theorem Sm.truncate {S : Ds} (h : Sm S) (n : By) (x : Int) : Sm (S.truncate n x).2 := by
 have hw := h.wf.truncate n x
 unfold Ds.truncate at hw ⊢
 split
 ·exact h
 ·rename_i a
  rw [if_neg a] at hw
  split
  ·exact h
  ·rename_i b
   rw [if_neg b] at hw
   exact h.same hw rfl rfl rfl
theorem Sm.sync {S : Ds} (h : Sm S) (n : By) : Sm (S.sync n).2 := by
 have hw := h.wf.sync n
 unfold Ds.sync at hw ⊢
 split
 ·exact h
 ·rename_i a
  rw [if_neg a] at hw
  split
  ·rename_i b
   rw [if_pos b] at hw
   exact h.same hw rfl rfl rfl
  ·rename_i b
   rw [if_neg b] at hw
   exact h.same hw rfl rfl rfl
theorem Sm.setPlan {S : Ds} (h : Sm S) (o f t : Int) : Sm (S.setPlan o f t) := by
 have hw := h.wf.setPlan o f t
 unfold Ds.setPlan at hw ⊢
 split
 ·rename_i a
  rw [if_pos a] at hw
  exact h.same hw rfl rfl rfl
 ·exact h
theorem del_some {l : Nm} {n : By} {k : Nat} (h : l.get n = some k) : (l.del n).length + 1 ≤ l.length := by
 unfold Nm.get at h
 cases hf : l.find? (fun p => p.1 == n) with
 | none => rw [hf] at h; cases h
 | some p =>
  have hm := List.mem_of_find?_eq_some hf
  have hp := List.find?_some hf
  have : (l.del n).length < l.length := List.length_filter_lt_length_iff_exists.2 ⟨p, hm, by simpa using hp⟩
  omega
theorem put_get {l : Nm} (hu : l.Up) {n t : By} {k j : Nat} (h : l.get n = some k) (hne : n ≠ t) : ∃ i, (l.put t j).get n = some i := by
 have hm := (Nm.get_some hu).1 h
 exact ⟨k, (Nm.get_some (hu.put t j)).2 (Nm.mem_put.2 (.inr ⟨hm, hne⟩))⟩
theorem Sm.rename {S : Ds} (h : Sm S) (f t : By) : Sm (S.rename f t).2 := by
 have hw := h.wf.rename f t
 unfold Ds.rename at hw ⊢
 split
 ·rename_i a
  rw [if_pos a] at hw
  split
  ·rename_i b
   rw [if_pos b] at hw
   split
   ·exact h
   ·rename_i c
    rw [if_neg c] at hw
    split
    ·rename_i e
     rw [if_pos e] at hw
     exact h.same hw rfl rfl rfl
    ·rename_i e
     rw [if_neg e] at hw
     refine h.add hw (.gv f t) rfl rfl rfl ?_
     show (match S.shown.get f with | some k => (S.shown.put t k).del f | none => S.shown).length ≤ 256
     cases hg : S.shown.get f with
     | none => exact h.now
     | some k =>
      obtain ⟨i, hi⟩ := put_get (j := k) h.wf.sup hg e
      have h1 := del_some hi
      have h2 := put_len S.shown t k
      have := h.now
      show ((S.shown.put t k).del f).length ≤ 256
      omega
  ·exact h
 ·exact h
theorem Sm.getD {S : Ds} (h : Sm S) (n : By) : Sm (if S.getE n = 0 then S.read n 0 (S.size n) else S) := by
 split
 ·have hw := h.wf.read n 0 (S.size n)
  unfold Ds.read at hw ⊢
  split
  ·rename_i b
   rw [if_pos b] at hw
   exact h.same hw rfl rfl rfl
  ·exact h
 ·exact h
theorem Sm.raway {S : Ds} (h : Sm S) (n : By) : Sm (S.raway n).2 := Sm.bnd (h.remove n) (fun T hT => hT.syncNames)
theorem Sm.off2 {E : Int} {r : Int × Ds} (h : Sm r.2) : Sm (Dsk.off2 E r).2 := by
 unfold Dsk.off2
 split <;> exact h
theorem Sm.rput1 {S : Ds} (h : Sm S) (was : Bool) (n q d : By) : Sm (S.rput1 was n q d).2 := by
 have h1 := h.create q
 have h2 := h1.append q d
 unfold Ds.rput1
 split
 ·split
  ·exact Sm.bnd (h2.sync q) (fun T hT => Sm.bnd (hT.rename q n) (fun T hT => hT.syncNames))
  ·split
   ·exact h2
   ·exact (h2.raway q).off2
 ·split
  ·exact h1
  ·exact h1.syncNames.off2
theorem Sm.put {S : Ds} (h : Sm S) (n d : By) : Sm (S.put n d).2 := by
 rw [← Ds.rput_put h.wf.sup]
 unfold Ds.rput
 split
 ·split
  ·split
   ·exact Sm.bnd (h.remove _) (fun T hT => hT.rput1 true n _ d)
   ·exact h.rput1 false n _ d
  ·exact h
 ·exact h
end Dsk
end

section
open Go.RowKit Dsk
set_option linter.unusedVariables false
set_option linter.unusedSimpArgs false
theorem tmod_in (v : Int) (n : Nat) (h : 0 < n) : (v.tmod n < 0 → ∃ r : Nat, r < n ∧ v.tmod n + n = r) ∧ (¬ v.tmod n < 0 → ∃ r : Nat, r < n ∧ v.tmod n = r) := by
 have h1 := Int.lt_tmod_of_pos v (b := (n : Int)) (by omega)
 have h2 := Int.tmod_lt_of_pos v (b := (n : Int)) (by omega)
 exact ⟨fun h => ⟨(v.tmod n + n).toNat, by omega, by omega⟩, fun h => ⟨(v.tmod n).toNat, by omega, by omega⟩⟩
set_option maxRecDepth 100000 in
theorem round6_ok (v : Int) (n : Nat) (w : World) (hv : (Lit.int .i64 v).wf = true) (h0 : 0 < n) (hn : n ≤ 1073741824) : Calls Tryz.prog 5 #[.int .i64 v, .int .i64 n] w fun e w' => ∃ r : Nat, r < n ∧ e = .returned (.int .i64 r) ∧ w' = w := by
 have ht := tmod_in v n h0
 have hb : -(n : Int) < v.tmod n ∧ v.tmod n < n := ⟨Int.lt_tmod_of_pos v (by omega), Int.tmod_lt_of_pos v (by omega)⟩
 have hz : ((n : Int) == 0) = false := by simp; omega
 have hw : IntKind.i64.wrap (v.tmod n) = v.tmod n := IntWalk.i64_in _ (by omega)
 have hw2 : IntKind.i64.wrap (v.tmod n + n) = v.tmod n + n := IntWalk.i64_in _ (by omega)
 by_cases h : v.tmod n < 0
 ·obtain ⟨r, hr, e⟩ := ht.1 h
  have HR := hide (And.intro hr e)
  clear ht hr e
  go_enter Tryz.func5, Tryz.ntmps5
  go_wp2
  go_ret
  exact ⟨r, HR.out.1, by rw [← HR.out.2]; rfl, rfl⟩
 ·obtain ⟨r, hr, e⟩ := ht.2 h
  have HR := hide (And.intro hr e)
  clear ht hr e
  go_enter Tryz.func5, Tryz.ntmps5
  go_wp2
  go_ret
  exact ⟨r, HR.out.1, by rw [← HR.out.2]; rfl, rfl⟩
namespace Dsk
end Dsk
end

section
open Go.RowKit Dsk
set_option linter.unusedVariables false
set_option linter.unusedSimpArgs false
theorem many_sl (w : World) (i : Nat) (hi : i ≤ 299) : Sl (w.alloc (.cells #[.int .u8 (97 + (i : Int) / 26), .int .u8 (97 + (i : Int) % 26)] 5)) (some ⟨w.heap.size, 0, none⟩) [UInt8.ofNat (97 + i / 26), UInt8.ofNat (97 + i % 26)] := fun j hj => by
 refine ⟨w.heap.size, 0, rfl, ?_⟩
 rw [World.cell?_alloc_new]
 have hj2 : j = 0 ∨ j = 1 := by simp at hj; omega
 rcases hj2 with rfl | rfl
 ·simp
  omega
 ·simp
  omega
set_option maxHeartbeats 3200000 in
set_option maxRecDepth 100000 in
theorem be_many {X : Nat → Prop} {w : World} {P p q : Nat} {S : Ds} {N M : Nat} (h : Pz X w P p q S N S M) (hsm : Sm S) (name to : By) (da : Option Addr) (dn dc : Nat) (n po pf pt : Int) (pa : Option Addr) (pn pc : Nat) (hnw : (Lit.int .i64 n).wf = true) (hN : N + 300 ≤ 268435456) (hM : M + 300 ≤ 268435456) :
  Calls Tryz.prog 8 #[.pointer (some ⟨P, 0, none⟩), .agg #[.int .i64 14, encStr name, encStr to, .slice da dn dc, .int .i64 n, .int .i64 po, .int .i64 pf, .int .i64 pt, .slice pa pn pc]] w fun e w' => e = .returned (.bool true) ∧ (∃ D, Sm D ∧ Pz X w' P p q D (N + 300) D (M + 300)) ∧ Keep (fun b => ¬ X b) w w' := by
 obtain ⟨w1, hw1⟩ : ∃ w1, w1 = w.alloc (.cells #[.int .i64 14, encStr name, encStr to, .slice da dn dc, .int .i64 n, .int .i64 po, .int .i64 pf, .int .i64 pt, .slice pa pn pc] 33) := ⟨_, rfl⟩
 obtain ⟨h1, hR, hk1⟩ := h.box [.int .i64 14, encStr name, encStr to, .slice da dn dc, .int .i64 n, .int .i64 po, .int .i64 pf, .int .i64 pt, .slice pa pn pc] 33 hw1
 have i0 : w1.cell? ⟨w.heap.size, 0, none⟩ = some (.int .i64 14) := hR.bx 0 _ rfl
 have HK : Hid (Keep (fun b => ¬ X b) w w1) := hide (Keep.ofNone hk1)
 have HSM := hide hsm
 clear h hk1 hsm
 go_enter Tryz.func8, Tryz.ntmps8
 go_upto_region 1 with (fail)
 rw [← hw1]
 clear hw1
 generalize w.heap.size = bx at *
 have HQ := hide h1
 have HR := hide hR
 clear h1 hR
 go_wp2
 clear i0
 go_loopw [5] (fun iv wr => ∃ (i : Nat) (D : Ds), i ≤ 299 ∧ iv = .int .i64 i ∧ Hid (Sm D ∧ Pz (fun b => X b ∨ b = bx) wr P p q D (N + i) D (M + i) ∧ Keep (fun b => ¬ X b) w wr ∧ Rdz P p q bx [.int .i64 14, encStr name, encStr to, .slice da dn dc, .int .i64 n, .int .i64 po, .int .i64 pf, .int .i64 pt, .slice pa pn pc] wr)) (fun iv wr => 300 - (intOf iv).toNat)
 case atStart => exact ⟨0, S, by omega, rfl, hide ⟨HSM.out, HQ.out, HK.out, HR.out⟩⟩
 case round =>
  clear HQ HK HR HSM
  obtain ⟨i, D, hi9, rfl, HL⟩ := hrel
  have c4 : wr.cell? ⟨bx, 4, none⟩ = some (.int .i64 n) := HL.out.2.2.2.bx 4 _ rfl
  have hrd := round6_ok n 300 wr hnw (by omega) (by omega)
  have hcv := conv_sl _ _ 2 2 _ rfl (many_sl wr i hi9) (by simp)
  obtain ⟨x, hx⟩ : ∃ x, UInt8.ofNat (97 + i / 26) = x := ⟨_, rfl⟩
  obtain ⟨y, hy⟩ : ∃ y, UInt8.ofNat (97 + i % 26) = y := ⟨_, rfl⟩
  rw [hx, hy] at hcv
  have hcc : (ByteArray.mk #[109, 97, 110, 121] ++ ByteArray.mk #[x, y]) = ByteArray.mk [109, 97, 110, 121, x, y].toArray := by apply ByteArray.ext; simp [ByteArray.data_append]
  clear hx hy
  go_upto_region 26 with (go_at_call 5; refine hrd.mono ?_; rintro e w2 ⟨r, hr3, rfl, hww⟩; obtain rfl := hww.symm; clear hrd)
  rotate_left
  ·go_ret
   exact ⟨rfl, ⟨D, HL.out.1, (HL.out.2.1.less (fun _ h => .inl h)).mono (by omega) (by omega)⟩, HL.out.2.2.1⟩
  ·have hi3 : i < 299 := by omega
   go_upto_region 27 with (fail)
   have HK9 : Hid (Kept [] wr (wr.alloc (.cells #[.int .u8 (97 + (i : Int) / 26), .int .u8 (97 + (i : Int) % 26)] 5))) := hide ((Kept.refl [] wr).alloc _)
   generalize wr.alloc (.cells #[.int .u8 (97 + (i : Int) / 26), .int .u8 (97 + (i : Int) % 26)] 5) = w3 at HK9 ⊢
   obtain ⟨nm, hnm⟩ : ∃ nm : By, [109, 97, 110, 121, x, y] = nm := ⟨_, rfl⟩
   have hnml : nm.length ≤ 4611686018427387904 := by rw [← hnm]; simp
   have HQ3 := hide (HL.out.2.1.kept HK9.out)
   have HK3 := hide (HL.out.2.2.1.kept HK9.out)
   have HR3 := hide (HL.out.2.2.2.kept HK9.out)
   have HS3 := hide (HL.out.1.create nm)
   rw [show (Value.string (ByteArray.mk [109, 97, 110, 121, x, y].toArray)) = encStr nm from by rw [hnm]]
   clear HL HK9 hcv hcc c4 hnm
   have HQ0 : Hid (Pz (fun b => X b ∨ b = bx) w3.drew P p q D (N + i) D (M + i)) := hide (HQ3.out.kept ((Kept.refl [] w3).drew))
   have HK0 : Hid (Keep (fun b => ¬ X b) w w3.drew) := hide (HK3.out.kept ((Kept.refl [] w3).drew))
   clear HQ3 HK3
   refine wp_region_held_drew (S := (Rdz P p q bx [.int .i64 14, encStr name, encStr to, .slice da dn dc, .int .i64 n, .int .i64 po, .int .i64 pf, .int .i64 pt, .slice pa pn pc])) (by kernel_rfl) (HR3.out.kept ((Kept.refl [] w3).drew)) (fun h0 => ?_)
   generalize World.drew w3 = v0 at h0 HQ0 HK0 ⊢
   refine wpAnyH_take (i := 0) (v := .pointer (some ⟨P, 0, none⟩)) rfl (by kernel_rfl) (by kernel_rfl) (by kernel_rfl) (fun _ _ _ h => h) (Or.inl ⟨by rfl, fun w hSw => by go_simp⟩) h0 ?_
   try simp only [z1, z2, z3, z4, z5, z6, z7, z8]
   refine wpAnyH_take (i := 1) (v := .pointer (some ⟨P, 0, none⟩)) rfl (by kernel_rfl) (by kernel_rfl) (by kernel_rfl) (fun _ _ _ h => h) (Or.inl ⟨by rfl, fun w hSw => by go_simp⟩) h0 ?_
   try simp only [z1, z2, z3, z4, z5, z6, z7, z8]
   refine wpAnyH_take (i := 2) (v := .pointer (some ⟨P, 0, none⟩)) rfl (by kernel_rfl) (by kernel_rfl) (by kernel_rfl) (fun _ _ _ h => h) (Or.inl ⟨by rfl, fun w hSw => by go_simp⟩) h0 ?_
   try simp only [z1, z2, z3, z4, z5, z6, z7, z8]
   refine wpAnyH_take (i := 3) (v := .pointer (some ⟨p, 0, none⟩)) rfl (by kernel_rfl) (by kernel_rfl) (by kernel_rfl) (fun _ _ _ h => h) (Or.inl ⟨by rfl, fun w hSw => by have c0 := hSw.p0; go_simp⟩) h0 ?_
   try simp only [z1, z2, z3, z4, z5, z6, z7, z8]
   refine wpAnyH_take (i := 4) (v := encStr nm) rfl (by kernel_rfl) (by kernel_rfl) (by kernel_rfl) (fun _ _ _ h => h) (Or.inl ⟨by rfl, fun w hSw => by go_simp⟩) h0 ?_
   try simp only [z1, z2, z3, z4, z5, z6, z7, z8]
   refine wpAnyH_take (i := 6) (v := .pointer (some ⟨P, 0, none⟩)) rfl (by kernel_rfl) (by kernel_rfl) (by kernel_rfl) (fun _ _ _ h => h) (Or.inl ⟨by rfl, fun w hSw => by go_simp⟩) h0 ?_
   try simp only [z1, z2, z3, z4, z5, z6, z7, z8]
   refine wpAnyH_take (i := 7) (v := .pointer (some ⟨P, 0, none⟩)) rfl (by kernel_rfl) (by kernel_rfl) (by kernel_rfl) (fun _ _ _ h => h) (Or.inl ⟨by rfl, fun w hSw => by go_simp⟩) h0 ?_
   try simp only [z1, z2, z3, z4, z5, z6, z7, z8]
   refine wpAnyH_take (i := 8) (v := .pointer (some ⟨P, 1, none⟩)) rfl (by kernel_rfl) (by kernel_rfl) (by kernel_rfl) (fun _ _ _ h => h) (Or.inl ⟨by rfl, fun w hSw => by go_simp⟩) h0 ?_
   try simp only [z1, z2, z3, z4, z5, z6, z7, z8]
   refine wpAnyH_take (i := 9) (v := .pointer (some ⟨q, 0, none⟩)) rfl (by kernel_rfl) (by kernel_rfl) (by kernel_rfl) (fun _ _ _ h => h) (Or.inl ⟨by rfl, fun w hSw => by have c0 := hSw.p1; go_simp⟩) h0 ?_
   try simp only [z1, z2, z3, z4, z5, z6, z7, z8]
   refine wpAnyH_take (i := 10) (v := encStr nm) rfl (by kernel_rfl) (by kernel_rfl) (by kernel_rfl) (fun _ _ _ h => h) (Or.inl ⟨by rfl, fun w hSw => by go_simp⟩) h0 ?_
   try simp only [z1, z2, z3, z4, z5, z6, z7, z8]
   refine wpAnyH_ready (rs := [5]) (by kernel_rfl) (by simp) (AllReadyH.cons (i := 5) rfl (fun K hK => ?_) AllReadyH.nil)
   rw [if_pos (by rfl)]
   go_simp
   refine (create_z1 HQ0.out (by omega) nm hnml).mono ?_
   rintro e v1 ⟨rfl, hq, hk⟩
   have HQ1 := hide hq
   have HK1 : Hid (Keep (fun b => ¬ X b) w v1) := hide (HK0.out.trans hk (fun b hb _ hx => hb (.inl (.inl hx))))
   clear hq HQ0 HK0
   refine hK.out _ _ (h0.mv hk (.inr rfl)) (fun h1 => ?_)
   clear hK K
   try simp only [z1, z2, z3, z4, z5, z6, z7, z8]
   refine wpAnyH_ready (rs := [11]) (by kernel_rfl) (by simp) (AllReadyH.cons (i := 11) rfl (fun K hK => ?_) AllReadyH.nil)
   rw [if_pos (by rfl)]
   go_simp
   refine (create_z2 HQ1.out (by omega) nm hnml).mono ?_
   rintro e v2 ⟨rfl, hq, hk⟩
   have HQ2 := hide hq
   have HK2 : Hid (Keep (fun b => ¬ X b) w v2) := hide (HK1.out.trans hk (fun b hb _ hx => hb (.inl (.inl hx))))
   clear hq HQ1 HK1
   refine hK.out _ _ (h1.mv hk (.inr rfl)) (fun h2 => ?_)
   clear hK K
   try simp only [z1, z2, z3, z4, z5, z6, z7, z8]
   refine wpAnyH_take (i := 12) (v := .bool false) rfl (by kernel_rfl) (by kernel_rfl) (by kernel_rfl) (fun _ _ _ h => h) (Or.inl ⟨by rfl, fun w hSw => by go_simp⟩) h2 ?_
   try simp only [z1, z2, z3, z4, z5, z6, z7, z8]
   refine wpAnyH_done (by kernel_rfl) ?_ _
   go_wp2
   go_roundw
   case rel => exact ⟨i + 1, (D.create nm).2, by omega, by go_num, hide ⟨HS3.out, HQ2.out, HK2.out, h2⟩⟩
   case measure => simp [intOf]; omega
end

end Go.Proofs.YtodihkdmneihiaaGreatDoor
