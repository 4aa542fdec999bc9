/-
  FileCut: the walk. (Written by tools/fqh.py.)
-/
import Derived.Test.YtemlbmamcbmnjaaGreatDoorFqfp
import Derived.Test.YtemlbmamcbmnjaaGreatDoorFpap
import Derived.Deep.CutRange
namespace Go.Proofs.YtemlbmamcbmnjaaGreatDoor
open Go.RowKit Dsk
set_option linter.unusedVariables false
set_option linter.unusedSimpArgs false
/-- What lies under a name, in one form; its bytes lie in Z. -/
structure Uv (w : World) (Z : Nat → Prop) (L : List (By × By)) (nm : By) (v : Value) (b : Bool) (x : By) (bo : Option Addr) (c : Nat) : Prop where
  val : v = .slice bo x.length c
  sl : Sl w bo x
  fnd : (b = true ∧ fnd L nm = some (nm, x)) ∨ (b = false ∧ Dsk.fnd L nm = none ∧ x = [])
  loc : x ≠ [] → ∀ a, bo = some a → Z a.block
section
variable {w w' : World} {Z F : Nat → Prop} {L : List (By × By)} {nm : By} {v : Value} {b : Bool} {x : By} {bo : Option Addr} {c M : Nat}
theorem Uv.keep (h : Uv w Z L nm v b x bo c) (hk : Keep F w w') (hF : ∀ g, Z g → ¬ F g) : Uv w' Z L nm v b x bo c := ⟨h.val, h.sl.keep hk (fun hn a ha => hF _ (h.loc hn a ha)), h.fnd, h.loc⟩
theorem Uv.kept (h : Uv w Z L nm v b x bo c) (hk : Kept [] w w') : Uv w' Z L nm v b x bo c := h.keep (Keep.ofNone (F := fun _ => False) hk) (fun _ _ h => h)
theorem Uv.small (h : Uv w Z L nm v b x bo c) (hM : ∀ f ∈ L, f.2.length ≤ M) : x.length ≤ M := by
  rcases h.fnd with ⟨_, h⟩ | ⟨_, _, rfl⟩
  · exact hM _ (List.mem_of_find?_eq_some h)
  · exact Nat.zero_le _
end
set_option maxHeartbeats 800000 in
set_option maxRecDepth 100000 in
theorem under_okz (ao : Option Addr) (n c : Nat) (L : List (By × By)) (nm : By) (w : World) {Z : Nat → Prop} (hx : L.length = n) (hm : n ≤ 4611686018427387904) (h1 : Fisz w Z ao L) :
    Calls Tryz.prog 14 #[.slice ao n c, encStr nm] w fun e w' => ∃ v b, e = .returned (.tuple #[v, .bool b]) ∧ (∃ x bo c, Uv w Z L nm v b x bo c) ∧ ∃ k, w' = w.drewN k := by
  have hat := at_ok ao n c L nm w hx hm h1.fis
  rcases fpos_find L nm 0 with ⟨hp, hfi⟩ | ⟨j, f, hp, hj, hfi, hnm⟩
  · rw [hp] at hat
    have HF := hide hfi
    clear hfi hp h1 hx
    go_enter Tryz.func14, Tryz.ntmps14
    go_wp2_with (go_at_call 60; refine hat.mono ?_; rintro e w1 ⟨rfl, hw1⟩; have HW := hide hw1; clear hat hw1)
    go_ret2
    exact ⟨_, _, rfl, ⟨[], none, 0, rfl, fun i hi => by simp at hi, .inr ⟨rfl, HF.out, rfl⟩, fun h => absurd rfl h⟩, HW.out⟩
  · rw [hp] at hat
    have hjn : j < n := by rw [← hx]; exact (List.getElem?_eq_some_iff.1 hj).1
    obtain ⟨b1, rfl, _, s, hs, e1, bo1, bc1, e2, s1, hz1⟩ := h1 j (by rw [hx]; exact hjn)
    rw [hj] at hs
    cases hs
    have HF := hide (show L.find? (fun f => f.1 == nm) = some f ∧ f.1 = nm ∧ Sl w bo1 f.2 ∧ (f.2 ≠ [] → ∀ a, bo1 = some a → Z a.block) from ⟨hfi, hnm, s1, hz1⟩)
    have HC : Hid (∀ k : Nat, (w.drewN k).cell? ⟨b1, j * 2 + 1, none⟩ = some (.slice bo1 f.2.length bc1)) := hide (fun k => ((Kept.refl [] w).drewN k).cellOf e2 (by simp))
    rw [Nat.zero_add] at hat
    clear hfi hp h1 hx e1 e2 s1 hj hnm hz1
    obtain ⟨z, hz⟩ : ∃ z, f.2.length = z := ⟨_, rfl⟩
    rw [hz] at HC
    have HZ := hide hz
    clear hz
    go_enter Tryz.func14, Tryz.ntmps14
    go_upto_region 4 with (go_at_call 60; refine hat.mono ?_; rintro e w1 ⟨rfl, hw1⟩; obtain ⟨k, hw1⟩ := hw1; have HW := hide (show ∃ k, w1 = w.drewN k from ⟨k, hw1⟩); have e2 := HC.out k; rw [← hw1] at e2; clear hat hw1)
    go_wp2
    go_ret2
    obtain ⟨q1, q2, q3, q4⟩ := HF.out
    obtain ⟨fn, fx⟩ := f
    cases q2
    exact ⟨_, _, rfl, ⟨fx, bo1, bc1, by rw [HZ.out]; rfl, q3, .inl ⟨rfl, q1⟩, q4⟩, HW.out⟩
set_option maxRecDepth 100000 in
theorem begins_any (a1 a2 : Option Addr) (n1 c1 n2 c2 : Nat) (xs ys : By) (w : World) (hx : xs.length = n1) (hy : ys.length = n2) (hm : n1 ≤ 4611686018427387900) (hc : n1 ≤ c1) (hc2 : c1 ≤ 9223372036854775807) (h1 : Sl w a1 xs) (h2 : Sl w a2 ys) (h0 : a1 = none → c1 = 0) :
    Calls Tryz.prog 26 #[.slice a1 n1 c1, .slice a2 n2 c2] w fun e w' => e = .returned (.bool (decide (xs.take n2 = ys))) ∧ Kept [] w w' := by
  by_cases hle : n2 ≤ n1
  · have ht : (xs.take n2).length = n2 := by simp; omega
    have hst : Sl w a1 (xs.take n2) := fun i hi => by
      have hi2 : i < xs.length := by omega
      obtain ⟨b, off, e, hc⟩ := h1 i hi2
      refine ⟨b, off, e, ?_⟩
      rw [hc]
      simp only [List.getD_eq_getElem?_getD]
      rw [List.getElem?_take, if_pos (by omega)]
    have hsm := same_any a1 a2 n2 c1 n2 c2 (xs.take n2) ys w ht hy (by omega) hst h2
    have hge : (n2 : Int) ≤ (n1 : Int) := by omega
    clear h1 h2 ht hst hx hy
    generalize decide (xs.take n2 = ys) = bb at hsm ⊢
    cases a1 with
    | none =>
      obtain rfl := h0 rfl
      obtain rfl : n1 = 0 := by omega
      obtain rfl : n2 = 0 := by omega
      go_enter Tryz.func26, Tryz.ntmps26
      go_wp2_with (go_at_call 22; refine hsm.mono ?_; rintro e wx ⟨rfl, kk, hk'⟩; have HKX : Hid (Kept [] w wx) := hide (by rw [hk']; exact (Kept.refl [] w).drewN _); clear hsm hk')
      go_ret
      exact ⟨rfl, HKX.out⟩
    | some ad =>
      go_enter Tryz.func26, Tryz.ntmps26
      go_wp2_with (go_at_call 22; refine hsm.mono ?_; rintro e wx ⟨rfl, kk, hk'⟩; have HKX : Hid (Kept [] w wx) := hide (by rw [hk']; exact (Kept.refl [] w).drewN _); clear hsm hk')
      go_ret
      exact ⟨rfl, HKX.out⟩
  · have hd : decide (xs.take n2 = ys) = false := by
      rw [decide_eq_false_iff_not]
      intro e
      have := congrArg List.length e
      simp at this
      omega
    rw [hd]
    clear h1 h2 hd
    have hgt : ¬ (n2 : Int) ≤ (n1 : Int) := by omega
    go_enter Tryz.func26, Tryz.ntmps26
    go_wp2
    go_ret
    exact ⟨rfl, Kept.refl [] w⟩
theorem old_kept {w wa w' : World} {Y : Nat → Prop} (h : Kept [] w wa) (k : Keep (fun b => ¬ (b < w.heap.size ∨ Y b)) wa w') : Kept [] w w' :=
  ⟨k.os.trans h.os, k.tape.trans h.tape, k.output.trans h.output, Nat.le_trans h.size k.size, fun i hi _ => (k.block i (Nat.lt_of_lt_of_le hi h.size) (fun hn => hn (.inl hi))).trans (h.block i hi (by simp))⟩
namespace Dsk
theorem dels_of (l : Nm) (ns : List By) (p : By × Nat) (h : p ∈ dels l ns) : p ∈ l := (List.mem_filter.1 h).1
/-- Behind a Clean all is safe still. -/
theorem clean_safe {S D : Ds} {q : By} {E : Int} (hs : AllSafe S) (hoff : S.off ≤ 0) (h : CleanR S q E D) : E = 0 ∧ AllSafe D ∧ D.on = true ∧ D.off ≤ 0 := by
  rcases h with ⟨_, h1, h2⟩ | ⟨_, h1, h2⟩ | ⟨_, _, j, h2⟩
  · refine ⟨h1, ⟨by rw [h2.row, hs.row]; rfl, by rw [h2.safe, h2.shown, dels_nil]; exact hs.safe, fun p hp => ?_⟩, h2.on, by rw [h2.off]; exact hoff⟩
    rw [h2.th]
    rw [h2.shown, dels_nil] at hp
    exact hs.th p hp
  · refine ⟨h1, ⟨h2.row, by rw [h2.safe, h2.shown], fun p hp => ?_⟩, h2.on, by rw [h2.off]; exact hoff⟩
    rw [h2.th]
    rw [h2.shown] at hp
    exact hs.th p (dels_of _ _ _ hp)
  · have := h2.pos; omega
theorem Cutv.before {was now : List (By × By)} {n q d : By} (h : Cutv was now n q d) : fnd now n = fnd was n ∨ fnd now n = some (n, d) := by
  cases h with
  | all h => exact .inl (by rw [h])
  | less h => exact .inl h.name
  | plus m h => exact .inl h.name
  | new h => exact .inr h.name
theorem Cutv.plus' {was now : List (By × By)} {n q d : By} (h : Cutv was now n q d) : fnd now q = fnd was q ∨ fnd now q = none ∨ ∃ m, fnd now q = some (q, d.take m) := by
  cases h with
  | all h => exact .inl (by rw [h])
  | less h => exact .inr (.inl h.plus)
  | plus m h => exact .inr (.inr ⟨m, h.plus⟩)
  | new h => exact .inr (.inl h.plus)
theorem Cutv.rest {was now : List (By × By)} {n q d : By} (h : Cutv was now n q d) : flt n q was = flt n q now := by
  cases h with
  | all h => rw [h]
  | less h => exact h.rest
  | plus m h => exact h.rest
  | new h => exact h.rest
end Dsk

set_option maxHeartbeats 8000000 in
set_option maxRecDepth 100000 in
theorem cut_walk (room : Int) (ao : Option Addr) (n c : Nat) (name : By) (da : Option Addr) (dn dc : Nat) (off : Int) (po : Option Addr) (pn pc : Nat) (L : List (By × By)) (d : By) (ps : List Int) (w : World) (hg : Gl w) (hrw : (Lit.int .i64 room).wf = true) (hx : L.length = n) (hn : n ≤ 4611686018427387900) (hM : ∀ f ∈ L, f.1.length ≤ 4611686018427387900 ∧ f.2.length ≤ 4611686018427387900) (h1 : Fio w ao L) (hm : name.length ≤ 4611686018427387900) (hdl : d.length = dn) (hdn : dn ≤ 4611686018427387900) (hsd : Sl w da d) (hd0 : da = none → dn = 0) (hdb : d ≠ [] → ∀ a, da = some a → a.block < w.heap.size) (ho : (Lit.int .i64 off).wf = true)
    (hpl : ps.length = pn) (hpn : pn ≤ 17592186044416) (hpi : Ints w po ps) (hpw : ∀ i, (Lit.int .i64 (ps.getD i 0)).wf = true) (hpb : ps ≠ [] → ∀ a, po = some a → a.block < w.heap.size) (hdc : dn ≤ dc) (hdc2 : dc ≤ 140737488351232) (hdc0 : da = none → dc = 0) :
    Calls Tryz.prog 5 #[.int .i64 room, .slice ao n c, .string ⟨name.toArray⟩, .slice da dn dc, .int .i64 off, .slice po pn pc] w fun e w' => e = .returned (.bool true) ∧ Below w.heap.size w w' := by
  have HG := hide hg
  have HP := hide (show ps.length = pn ∧ Ints w po ps ∧ (∀ i, (Lit.int .i64 (ps.getD i 0)).wf = true) ∧ (ps ≠ [] → ∀ a, po = some a → a.block < w.heap.size) from ⟨hpl, hpi, hpw, hpb⟩)
  have HDT := hide (show d.length = dn ∧ Sl w da d ∧ (da = none → dn = 0) ∧ (d ≠ [] → ∀ a, da = some a → a.block < w.heap.size) from ⟨hdl, hsd, hd0, hdb⟩)
  have HO := hide ho
  have hrd := round6_ok room 4000 w hrw (by decide) (by decide)
  have HLD := hide (fun r h => loaded_ok r ao n c L w hx hn h hM h1)
  have hcat : ¬ (9223372036854775807 < 1 + name.length) := by omega
  have hcat2 : ¬ ((9223372036854775807 : Int) < 1 + (name.length : Int)) := by omega
  have hcc : (ByteArray.mk #[43] ++ ByteArray.mk name.toArray) = ByteArray.mk (43 :: name).toArray := by apply ByteArray.ext; simp [ByteArray.data_append]
  clear hg hx hM h1 hpl hpi hpw hpb ho hn hdl hsd hd0 hdb hrw
  go_enter Tryz.func5, Tryz.ntmps5
  go_upto_region 2 with (go_at_call 8; refine hrd.mono ?_; rintro e w' ⟨r, hr, rfl, hww⟩; obtain rfl := hww.symm; clear hrd)
  have hld := HLD.out (1 + (r : Int)) (by omega)
  go_upto_region 3 with (go_at_call 13; refine hld.mono ?_; rintro e w1 ⟨p, A, o, S, v, vs, B, rfl, hPD, hs, hon, hst, hrm, hbd, hlab, hF, hk1⟩; obtain ⟨vo, vc, rfl, _⟩ := own_shape hF.row; have HFZ0 := hide (Fisz.of hF).1; have HGT := hide (got_of hPD hbd hlab hF hk1); have HS := hide (And.intro hs (And.intro hon (And.intro hst (And.intro hrm.2.1 HGT.out.ax.wf)))); have HSM : Hid (S.files.length ≤ 1048576 ∧ ∀ f ∈ S.files, f.2.length ≤ 2097152) := hide (by have := files_small (HGT.out.ax.wf) hbd; exact ⟨this.1, fun f hf => by have := this.2 f hf; omega⟩); clear hPD hs hon hst hrm hbd hlab hF hk1 hld A o)
  clear HLD
  have hkn := known6_ok w1 (HG.out.kept HGT.out.kept (by simp))
  go_upto_region 6 with (go_at_call 9; refine hkn.mono ?_; rintro e w2 ⟨rfl, hk2⟩; have HA2 := hide (HGT.out.ax.kept hk2); have HW2 := hide (HGT.out.was w2 (Keep.ofNone hk2)); clear hkn hk2)

  obtain ⟨plus, hplus⟩ : ∃ x : By, x = 43 :: name := ⟨_, rfl⟩
  rw [← hplus]
  have HPL := hide hplus
  clear hcc hcat hcat2 hplus
  have HFZ : Hid (Fisz w2 (fun b => B ≤ b ∧ b < w1.heap.size) vo S.files) := hide (HFZ0.out.keep HA2.out.old (fun b hb hn => hn (.inr hb)))
  have hu0 := under_okz vo S.files.length vc S.files name w2 rfl (by have := HSM.out.1; omega) HFZ.out
  go_upto_region 7 with (go_at_call 14; refine hu0.mono ?_; rintro e w3 ⟨g0, is0, rfl, hun, k3, hw3⟩; have HU0 := hide hun; have HK3 : Hid (Kept [] w2 w3) := hide (by rw [hw3]; exact (Kept.refl [] w2).drewN _); clear hu0 hun hw3)
  have hup := under_okz vo S.files.length vc S.files plus w3 rfl (by have := HSM.out.1; omega) (HFZ.out.kept HK3.out)
  go_upto_region 8 with (go_at_call 14; refine hup.mono ?_; rintro e w4 ⟨gp, isp, rfl, hun, k4, hw4⟩; have HUP := hide hun; have HK4 : Hid (Kept [] w3 w4) := hide (by rw [hw4]; exact (Kept.refl [] w3).drewN _); clear hup hun hw4)
  obtain ⟨x0, b0, c0, hv0⟩ := HU0.out
  obtain ⟨xp, bp, cp, hvp⟩ := HUP.out
  obtain rfl := hv0.val
  obtain rfl := hvp.val
  have HVV : Hid (∀ w', Keep (fun b => ¬ (b < w.heap.size ∨ (B ≤ b ∧ b < w1.heap.size))) w4 w' → Uv w' (fun b => B ≤ b ∧ b < w1.heap.size) S.files name (.slice b0 x0.length c0) is0 x0 b0 c0 ∧ Uv w' (fun b => B ≤ b ∧ b < w1.heap.size) S.files plus (.slice bp xp.length cp) isp xp bp cp) := hide (fun w' hk => ⟨((hv0.kept HK3.out).kept HK4.out).keep hk (fun g hg hn => hn (.inr hg)), (hvp.kept HK4.out).keep hk (fun g hg hn => hn (.inr hg))⟩)
  have HA4 : Hid (Ax (fun b => b < w.heap.size ∨ (B ≤ b ∧ b < w1.heap.size)) w1 w4 p S 1048576) := hide ((HA2.out.kept HK3.out).kept HK4.out)
  clear HU0 HUP HK3 HK4 HA2 HW2 hv0 hvp HFZ HFZ0
  have HKO4 : Hid (Kept [] w w4) := hide (HGT.out.old HA4.out)
  have HK14 := hide HA4.out.old
  have HB4 := hide HA4.out.here
  have hr7 := round6_ok off 7 w4 HO.out (by decide) (by decide)
  have HPC := hide (fun r2 (h : r2 < 7) => plan_ax HB4.out (1 + ((r2 : Nat) : Int)) 0 0 ⟨by (obtain h | h | h | h | h | h | h : r2 = 0 ∨ r2 = 1 ∨ r2 = 2 ∨ r2 = 3 ∨ r2 = 4 ∨ r2 = 5 ∨ r2 = 6 := by omega) <;> subst h <;> decide, by decide, by decide⟩)
  go_upto_region 9 with (first
    | (go_at_call 8; refine hr7.mono ?_; rintro e w' ⟨r2, hr2, rfl, hww⟩; obtain rfl := hww.symm; have hpc := HPC.out r2 hr2; clear hr7)
    | (go_at_call 15; refine hpc.mono ?_; rintro e w5 ⟨rfl, hA5⟩; have HA5 := hide hA5; clear hpc hA5))
  have HS2 : Hid (AllSafe (S.setPlan (1 + (r2 : Int)) 0 0) ∧ (S.setPlan (1 + (r2 : Int)) 0 0).on = true ∧ (S.setPlan (1 + (r2 : Int)) 0 0).Wf ∧ (S.setPlan (1 + (r2 : Int)) 0 0).files = S.files) := hide ⟨HS.out.1.plan _ _ _, by simp [Ds.setPlan, HS.out.2.1], HA5.out.wf, by simp [Ds.setPlan, HS.out.2.1, Ds.files]⟩
  generalize S.setPlan (1 + (r2 : Int)) 0 0 = S2 at HA5 HS2
  clear HPC HA4 HB4 HS hr2
  have HSD : Hid (Sl w5 da d) := hide (HDT.out.2.1.kept (old_kept HKO4.out HA5.out.old) (by simp))
  have hpu := put_any HA5.out name (ao := da) (cp := dc) (by omega) hdn hm HDT.out.1 HSD.out HDT.out.2.2.1 (fun h a e => .inl (HDT.out.2.2.2 h a e))
  -- how it goes
  have HPD : Hid ((S2.put name d).2.on = true → (S2.put name d).1 ≠ 50) := hide (fun h => by
    by_cases hp : isPut name = true
    · have h2 := put_does (d := d) HS2.out.1 HS2.out.2.2.1 HS2.out.2.1 hp
      generalize (S2.put name d).1 = E at h2 ⊢
      generalize (S2.put name d).2 = D at h2 h
      cases h2 with
      | done => decide
      | full E D h0 => omega
      | cut D h1 => rw [h1] at h; cases h
    · unfold Ds.put; rw [if_neg hp]; simp)
  have HPC : Hid ((S2.put name d).2.on = false → (S2.put name d).1 = 50 ∧ isPut name = true ∧ ((S2.put name d).2.Wf → ∀ ps, Cutv S.files ((S2.put name d).2.crash ps).files name plus d)) := hide (fun h => by
    by_cases hp : isPut name = true
    · have h2 := put_does (d := d) HS2.out.1 HS2.out.2.2.1 HS2.out.2.1 hp
      rw [← HPL.out] at h2
      generalize (S2.put name d).1 = E at h2 ⊢
      generalize (S2.put name d).2 = D at h2 h ⊢
      cases h2 with
      | done D h1 => rw [h1] at h; cases h
      | full E D h0 h1 => rw [h1] at h; cases h
      | cut D h1 _ h3 => exact ⟨rfl, hp, by rw [HS2.out.2.2.2] at h3; exact h3⟩
    · have e : S2.put name d = (51, S2) := by unfold Ds.put; rw [if_neg hp]
      rw [e] at h
      rw [HS2.out.2.1] at h; cases h)
  go_upto_region 10 with (go_at_call 16; refine hpu.mono ?_; rintro e w6 ⟨ve, rfl, hev, hA6, hk6⟩; have HEV := hide hev; have HA6 := hide hA6; have HK6 := hide hk6; clear hpu hev hA6 hk6)
  generalize (S2.put name d).1 = E at HPD HPC HEV
  generalize (S2.put name d).2 = D at HPD HPC HA6
  clear HSD HA5 HS2
  obtain ⟨N6, hN6, hN6b⟩ : ∃ N6, 1048576 + min dn 1048576 + 20 = N6 ∧ N6 ≤ 3000000 := ⟨_, rfl, by omega⟩
  rw [hN6] at HA6
  clear hN6
  have hof := off_ax HA6.out
  have hKO6 : Kept [] w w6 := old_kept HKO4.out HK6.out
  have HKO6 := hide hKO6
  have hcd := code_any ve opPut name E w6 (HG.out.kept hKO6 (by simp)) HEV.out
  clear hKO6
  by_cases hDon : D.on = true
  · have hE := HPD.out hDon
    have hEb : (E != 50) = true := by simpa using hE
    rw [hDon] at hof
    clear HPD HPC hE hDon
    go_wp2_with (first
      | (go_at_call 25; refine hof.mono ?_; rintro e w' ⟨rfl, hww⟩; obtain rfl := hww.symm; clear hof)
      | (go_at_call 21; refine hcd.mono ?_; rintro e w7 ⟨rfl, hk7⟩; have HK7 := hide hk7; clear hcd hk7))
    go_ret
    exact ⟨rfl, (HKO6.out.trans HK7.out (by simp)).below (Nat.le_refl _) (by simp)⟩
  have hDoff : D.on = false := by simpa using hDon
  obtain ⟨hE, hput, hcv⟩ := HPC.out hDoff
  have HPUT := hide hput
  have HCV := hide (hcv HA6.out.wf ps)
  subst hE
  rw [hDoff] at hof
  clear HPD HPC hDon hDoff hput hcv
  go_upto_region 14 with (first
    | (go_at_call 25; refine hof.mono ?_; rintro e w' ⟨rfl, hww⟩; obtain rfl := hww.symm; clear hof)
    | (go_at_call 21; refine hcd.mono ?_; rintro e w7 ⟨rfl, hk7⟩; have HK7 := hide hk7; clear hcd hk7))
  have HA7 := hide (HA6.out.more HK7.out)
  have HKO7 : Hid (Kept [] w w7) := hide (HKO6.out.trans HK7.out (by simp))
  have hcr := crash_ax HA7.out (Kept.refl [] w7) (by omega) (c := pc) HP.out.1 (HP.out.2.1.kept (Keep.ofNone (F := fun _ => False) HKO7.out) (fun _ _ _ h => h)) HP.out.2.2.1 hpn (fun h a e => .inr (.inl (.inl (.inl (HP.out.2.2.2 h a e)))))
  go_upto_region 15 with (go_at_call 19; refine hcr.mono ?_; rintro e w8 ⟨rfl, hA8⟩; have HA8 := hide hA8; clear hcr hA8)
  have HCS : Hid (AllSafe (D.crash ps) ∧ (D.crash ps).on = true ∧ (D.crash ps).off ≤ 0) := hide ⟨crash_allSafe D ps, rfl, Int.le_refl _⟩
  have hK48 : Keep (fun b => ¬ (b < w.heap.size ∨ (B ≤ b ∧ b < w1.heap.size))) w4 w8 := ((HK6.out.kept HK7.out)).trans HA8.out.old (fun i e _ h => e (.inl (.inl h)))
  have HX8 : Hid (Ax (fun b => b < w.heap.size ∨ (B ≤ b ∧ b < w1.heap.size)) w8 w8 p (D.crash ps) N6) := hide (by
    obtain ⟨A, o, h1, h2, h3, h4⟩ := HA8.out
    have z8 := hK48.size
    have z4 := HK14.out.size
    have z1 := HGT.out.kept.size
    exact ⟨A, o, h1, fun b hb => ⟨(h2 b (.inl (.inl hb))).1, by omega⟩, Keep.refl _ _, h4⟩)
  have HW8 : Hid (Fis w8 vo S.files ∧ Kept [] w w8) := hide ⟨HGT.out.was w8 (HK14.out.trans hK48 (fun _ h _ => h)), old_kept HKO4.out hK48⟩
  have HUK := hide (HVV.out w8 hK48)
  clear hK48 HA8 HA7 HA6 HK6 HK7 HEV HKO6 HKO7 HVV HGT HK14 HKO4
  generalize D.crash ps = S3 at *
  have hfl := files_ax HX8.out (by omega)
  have HNB : Hid (S3.files.length ≤ 3000000 ∧ ∀ f ∈ S3.files, f.2.length ≤ 6000000) := hide (by
    have := files_small HX8.out.wf HX8.out.bd
    exact ⟨by omega, fun f hf => by have := this.2 f hf; omega⟩)
  generalize hnow : S3.files = now at hfl HNB HCV
  clear hnow
  generalize S.files = was at *
  go_upto_region 16 with (go_at_call 17; refine hfl.mono ?_; rintro e w9 ⟨v2, vs2, rfl, hF2, hk9⟩; obtain ⟨no, nc, rfl, _⟩ := own_shape hF2.row; have HN9 := hide (Fisz.of hF2).1; have HK9 := hide hk9; clear hfl hF2 hk9)
  have hu1 := under_okz no now.length nc now name w9 rfl (by have := HNB.out.1; omega) HN9.out
  go_upto_region 17 with (go_at_call 14; refine hu1.mono ?_; rintro e w10 ⟨g1, is1, rfl, hun, k10, hw10⟩; have HU1 := hide hun; have HK10 : Hid (Kept [] w9 w10) := hide (by rw [hw10]; exact (Kept.refl [] w9).drewN _); clear hu1 hun hw10)
  have hu2 := under_okz no now.length nc now plus w10 rfl (by have := HNB.out.1; omega) (HN9.out.kept HK10.out)
  go_upto_region 18 with (go_at_call 14; refine hu2.mono ?_; rintro e w11 ⟨g2, is2, rfl, hun, k11, hw11⟩; have HU2 := hide hun; have HK11 : Hid (Kept [] w10 w11) := hide (by rw [hw11]; exact (Kept.refl [] w10).drewN _); clear hu2 hun hw11)
  obtain ⟨x1, b1, c1, hv1⟩ := HU1.out
  obtain ⟨x2, b2, c2, hv2⟩ := HU2.out
  obtain rfl := hv1.val
  obtain rfl := hv2.val
  have HK811 : Hid (Kept [] w8 w11) := hide ((HK9.out.trans HK10.out (by simp)).trans HK11.out (by simp))
  have HNW : Hid (Fis w11 no now) := hide (((HN9.out.kept HK10.out).kept HK11.out).fis)
  have HKW : Hid (Kept [] w w11) := hide (HW8.out.2.trans HK811.out (by simp))
  have HSL : Hid (∀ w', Kept [] w11 w' → Sl w' b1 x1 ∧ Sl w' b2 x2 ∧ Sl w' b0 x0 ∧ Sl w' bp xp ∧ Sl w' da d) := hide (fun w' hk => ⟨((hv1.sl.kept HK10.out (by simp)).kept HK11.out (by simp)).kept hk (by simp), (hv2.sl.kept HK11.out (by simp)).kept hk (by simp), (HUK.out.1.sl.kept HK811.out (by simp)).kept hk (by simp), (HUK.out.2.sl.kept HK811.out (by simp)).kept hk (by simp), (HDT.out.2.1.kept HKW.out (by simp)).kept hk (by simp)⟩)
  have HLN : Hid (x1.length ≤ 6000000 ∧ x2.length ≤ 6000000 ∧ x0.length ≤ 2097152 ∧ xp.length ≤ 2097152) := hide ⟨hv1.small HNB.out.2, hv2.small HNB.out.2, HUK.out.1.small HSM.out.2, HUK.out.2.small HSM.out.2⟩
  have HFD : Hid (((is1 = true ∧ fnd now name = some (name, x1)) ∨ (is1 = false ∧ fnd now name = none ∧ x1 = [])) ∧ ((is2 = true ∧ fnd now plus = some (plus, x2)) ∨ (is2 = false ∧ fnd now plus = none ∧ x2 = [])) ∧ ((is0 = true ∧ fnd was name = some (name, x0)) ∨ (is0 = false ∧ fnd was name = none ∧ x0 = [])) ∧ ((isp = true ∧ fnd was plus = some (plus, xp)) ∨ (isp = false ∧ fnd was plus = none ∧ xp = []))) := hide ⟨hv1.fnd, hv2.fnd, HUK.out.1.fnd, HUK.out.2.fnd⟩
  -- as before, or as behind
  have HBA : Hid ((is1 = is0 ∧ x1 = x0) ∨ (is1 = true ∧ x1 = d)) := hide (by
    rcases HCV.out.before with h | h
    · left
      rcases HFD.out.1 with ⟨h1, h2⟩ | ⟨h1, h2, h3⟩ <;> rcases HFD.out.2.2.1 with ⟨j1, j2⟩ | ⟨j1, j2, j3⟩
      · rw [h2, j2] at h
        injection h with h
        injection h with _ h
        exact ⟨by rw [h1, j1], h⟩
      · rw [h2, j2] at h; cases h
      · rw [h2, j2] at h; cases h
      · exact ⟨by rw [h1, j1], by rw [h3, j3]⟩
    · right
      rcases HFD.out.1 with ⟨h1, h2⟩ | ⟨h1, h2, h3⟩
      · rw [h2] at h
        injection h with h
        injection h with _ h
        exact ⟨h1, h⟩
      · rw [h2] at h; cases h)
  have HPS : Hid (is2 = false ∨ (isp = true ∧ x2 = xp) ∨ d.take x2.length = x2) := hide (by
    rcases HFD.out.2.1 with ⟨h1, h2⟩ | ⟨h1, _⟩
    · right
      rcases HCV.out.plus' with h | h | ⟨m, h⟩
      · left
        rcases HFD.out.2.2.2 with ⟨j1, j2⟩ | ⟨j1, j2, j3⟩
        · rw [h2, j2] at h
          injection h with h
          injection h with _ h
          exact ⟨j1, h⟩
        · rw [h2, j2] at h; cases h
      · rw [h2] at h; cases h
      · right
        rw [h2] at h
        injection h with h
        injection h with _ h
        rw [h, List.length_take]
        by_cases hm : m ≤ d.length
        · rw [Nat.min_eq_left hm]
        · rw [Nat.min_eq_right (by omega), List.take_of_length_le (Nat.le_refl _), List.take_of_length_le (by omega)]
    · exact .inl h1)
  have HRS := hide HCV.out.rest
  clear HU1 HU2 hv1 hv2 HUK HK9 HK10 HK11 HN9 HFD HCV
  go_cut [26] from 93 to 100 (fun y wx => ∃ bb : Bool, y = .bool bb ∧ Hid (bb = true ↔ (is1 = is0 ∧ x1 = x0)) ∧ Hid (Kept [] w11 wx))
  case first =>
    have hs := HSL.out w11 (Kept.refl [] w11)
    have hsm := same_any b1 b0 x1.length c1 x0.length c0 x1 x0 w11 rfl rfl (by have := HLN.out.1; omega) hs.1 hs.2.2.1
    clear hs
    have HEQ : Hid (∀ bb : Bool, bb = decide (x1 = x0) → (bb = true ↔ x1 = x0)) := hide (fun bb h => by rw [h]; simp)
    generalize hbb : decide (x1 = x0) = bb at hsm
    have HBB := hide (HEQ.out bb hbb.symm)
    clear HEQ hbb
    generalize x1.length = z1 at *
    generalize x0.length = z0 at *
    cases is1 <;> cases is0
    · go_wp2_with (go_at_call 22; refine hsm.mono ?_; rintro e wx ⟨rfl, kk, hk'⟩; have HKX : Hid (Kept [] w11 wx) := hide (by rw [hk']; exact (Kept.refl [] w11).drewN _); clear hsm hk')
      go_meet
      case rel => exact ⟨bb, rfl, hide (by rw [HBB.out]; simp), HKX⟩
    · go_wp2
      go_meet
      case rel => exact ⟨false, rfl, hide (by simp), hide (Kept.refl [] w11)⟩
    · go_wp2
      go_meet
      case rel => exact ⟨false, rfl, hide (by simp), hide (Kept.refl [] w11)⟩
    · go_wp2_with (go_at_call 22; refine hsm.mono ?_; rintro e wx ⟨rfl, kk, hk'⟩; have HKX : Hid (Kept [] w11 wx) := hide (by rw [hk']; exact (Kept.refl [] w11).drewN _); clear hsm hk')
      go_meet
      case rel => exact ⟨bb, rfl, hide (by rw [HBB.out]; simp), HKX⟩
  case rest =>
    obtain ⟨bb, rfl, HB1, HKA⟩ := hcut
    go_upto_region 19 with (fail)
    go_cut [27] from 101 to 106 (fun y wx => ∃ aa : Bool, y = .bool aa ∧ Hid (aa = true ↔ (is1 = true ∧ x1 = d)) ∧ Hid (Kept [] w11 wx))
    case first =>
      have hs := HSL.out wc HKA.out
      have hsm := same_any b1 da x1.length c1 dn dc x1 d wc rfl HDT.out.1 (by have := HLN.out.1; omega) hs.1 hs.2.2.2.2
      clear hs
      have HEQ : Hid (∀ cc : Bool, cc = decide (x1 = d) → (cc = true ↔ x1 = d)) := hide (fun cc h => by rw [h]; simp)
      generalize hbb : decide (x1 = d) = cc at hsm
      have HBB := hide (HEQ.out cc hbb.symm)
      clear HEQ hbb
      generalize x1.length = z1 at *
      cases is1
      · go_wp2
        go_meet
        case rel => exact ⟨false, rfl, hide (by simp), HKA⟩
      · go_wp2_with (go_at_call 22; refine hsm.mono ?_; rintro e wx ⟨rfl, kk, hk'⟩; have HKX : Hid (Kept [] w11 wx) := hide (HKA.out.trans (by rw [hk']; exact (Kept.refl [] _).drewN _) (by simp)); clear hsm hk')
        go_meet
        case rel => exact ⟨cc, rfl, hide (by rw [HBB.out]; simp), HKX⟩
    case rest =>
      clear HKA
      obtain ⟨aa, rfl, HA1, HKA⟩ := hcut
      have HAB : Hid (bb = true ∨ aa = true) := hide (by rcases HBA.out with h | h; exact .inl (HB1.out.2 h); exact .inr (HA1.out.2 h))
      clear HB1 HA1 HBA
      go_upto_region 20 with (fail)
      go_cut [112] from 107 to 111 (fun y wx => ∃ bq : Bool, bq = false ∧ y = .bool bq ∧ Hid (Kept [] w11 wx))
      case first =>
        rcases HAB.out with h | h
        · subst h
          go_wp2
          go_meet
          case rel => exact ⟨false, rfl, rfl, HKA⟩
        · subst h
          cases bb
          · go_wp2
            go_meet
            case rel => exact ⟨false, rfl, rfl, HKA⟩
          · go_wp2
            go_meet
            case rel => exact ⟨false, rfl, rfl, HKA⟩
      case rest =>
        clear HKA HAB
        obtain ⟨bq, rfl, rfl, HKA⟩ := hcut
        go_upto_region 22 with (fail)
        go_cut [128] from 113 to 127 (fun y wx => ∃ bq : Bool, bq = false ∧ y = .bool bq ∧ Hid (Kept [] w11 wx))
        case first =>
          cases is2
          · go_wp2
            go_meet
            case rel => exact ⟨false, rfl, rfl, HKA⟩
          · have hs := HSL.out _ HKA.out
            have hbg := begins_any da b2 dn dc x2.length c2 d x2 _ HDT.out.1 rfl hdn hdc (by omega) hs.2.2.2.2 hs.2.1 hdc0
            have HSM2 : Hid (∀ w', Kept [] w11 w' → Calls Tryz.prog 22 #[.slice b2 x2.length c2, .slice bp xp.length cp] w' fun e w'' => e = .returned (.bool (decide (x2 = xp))) ∧ ∃ k, w'' = w'.drewN k) := hide (fun w' hk => same_any b2 bp _ c2 _ cp x2 xp w' rfl rfl (by have := HLN.out.2.1; omega) (HSL.out w' hk).2.1 (HSL.out w' hk).2.2.2.1)
            clear hs
            by_cases hbt : d.take x2.length = x2
            · rw [show decide (d.take x2.length = x2) = true by simpa using hbt] at hbg
              clear hbt HSM2
              generalize x2.length = z2 at *
              go_wp2_with (go_at_call 26; refine hbg.mono ?_; rintro e wx ⟨rfl, hk'⟩; have HKX : Hid (Kept [] w11 wx) := hide (HKA.out.trans hk' (by simp)); clear hbg hk')
              go_meet
              case rel => exact ⟨false, rfl, rfl, HKX⟩
            · obtain ⟨hp1, hp2⟩ : isp = true ∧ x2 = xp := by rcases HPS.out with h | h | h; cases h; exact h; exact absurd h hbt
              rw [show decide (d.take x2.length = x2) = false by simpa using hbt] at hbg
              rw [show decide (x2 = xp) = true by simpa using hp2] at HSM2
              subst hp1
              clear hbt hp2
              generalize x2.length = z2 at *
              generalize xp.length = zp at *
              go_wp2_with (first
                | (go_at_call 26; refine hbg.mono ?_; rintro e wx ⟨rfl, hk'⟩; have HKX : Hid (Kept [] w11 wx) := hide (HKA.out.trans hk' (by simp)); have hsm := HSM2.out wx HKX.out; clear hbg hk')
                | (go_at_call 22; refine hsm.mono ?_; rintro e wy ⟨rfl, kk, hk'⟩; have HKY : Hid (Kept [] w11 wy) := hide (HKX.out.trans (by rw [hk']; exact (Kept.refl [] _).drewN _) (by simp)); clear hsm hk'))
              go_meet
              case rel => exact ⟨false, rfl, rfl, HKY⟩
        case rest =>
          clear HKA HPS
          obtain ⟨br, rfl, rfl, HKA⟩ := hcut
          have hoth := others_yes vo no was.length vc now.length nc was now name plus _ rfl rfl (by have := HSM.out.1; omega) (by have := HNB.out.1; omega) (fun f hf => by have := HSM.out.2 f hf; omega) ((HW8.out.1.kept HK811.out).kept HKA.out) (HNW.out.kept HKA.out) HRS.out
          have HAC := hide ((HX8.out.kept HK811.out).kept HKA.out)
          have HKWC : Hid (Kept [] w wc) := hide (HKW.out.trans HKA.out (by simp))
          clear HKA HNW HRS HSL HLN HX8 HW8 HK811 HKW HNB
          generalize was.length = zw at *
          generalize now.length = zn at *
          generalize x1.length = z1 at *
          generalize x0.length = z0 at *
          generalize x2.length = z2 at *
          generalize xp.length = zp at *
          go_upto_region 26 with (first
            | (go_at_call 24; refine hoth.mono ?_; rintro e w12 ⟨rfl, hk'⟩; have HK12 := hide (HKWC.out.trans hk' (by simp)); have HA12 := hide (HAC.out.kept hk').here; have hcl := clean_new HA12.out (by omega) HCS.out.2.1 [43] (by decide); clear hoth hk')
            | (go_at_call 27; refine hcl.mono ?_; rintro e w13 ⟨vc2, w13', E3, D3, rfl, hev3, hcr3, hA3, hk3, hne3⟩; obtain ⟨hE3, q1, q2, q3⟩ := clean_safe HCS.out.1 HCS.out.2.2 hcr3; have HQ3 := hide (And.intro q1 (And.intro q2 q3)); have HA13 := hide (hA3.kept hk3); obtain rfl : vc2 = .nilIface := (by rcases hev3 with h | h; exact h.2; exact absurd hE3 h.1); clear hcl hev3 hcr3 hA3 hk3 hne3 hE3 q1 q2 q3))
          have HK13 : Hid (Kept [] w w13) := hide (old_kept HK12.out HA13.out.old)
          have HPR := hide (put_does (n := name) (d := d) HQ3.out.1 HA13.out.wf HQ3.out.2.1 HPUT.out)
          have hpu := put_any HA13.out.here name (ao := da) (cp := dc) (by omega) hdn hm HDT.out.1 (HDT.out.2.1.kept HK13.out (by simp)) HDT.out.2.2.1 (fun h a e => .inl (HDT.out.2.2.2 h a e))
          have HOFF : Hid (D3.off ≤ 0) := hide HQ3.out.2.2
          generalize (D3.put name d).1 = E4 at HPR hpu
          generalize (D3.put name d).2 = D4 at HPR hpu
          clear HA13 HQ3 HK12 HA12 HAC HKWC
          obtain ⟨M4, hM4, hM4b⟩ : ∃ M4, 3 * N6 + 3 + min dn 1048576 + 20 = M4 ∧ M4 ≤ 30000000 := ⟨_, rfl, by omega⟩
          rw [hM4] at hpu
          clear hM4
          go_upto_region 27 with (first
            | (go_at_call 16; refine hpu.mono ?_; rintro e w14 ⟨v4, rfl, hev, hA14, hk14⟩; have HA14 := hide hA14; have HK14 : Hid (Kept [] w w14) := hide (old_kept HK13.out hk14); have hcd := code_any v4 opPut name E4 w14 (HG.out.kept HK14.out (by simp)) hev; clear hpu hev hA14 hk14)
            | (go_at_call 21; refine hcd.mono ?_; rintro e w15 ⟨rfl, hk15⟩; have HA15 := hide (HA14.out.kept hk15); have HK15 : Hid (Kept [] w w15) := hide (HK14.out.trans hk15 (by simp)); clear hcd hk15))
          clear HA14 HK14 HK13
          have hpr := HPR.out
          cases hpr with
          | cut D h1 h2 => have := HOFF.out; omega
          | full E D h0 h1 h2 h4 =>
            clear HPR HOFF h1 h2 h4
            rcases h0 with rfl | rfl
            · go_wp2
              go_ret
              exact ⟨rfl, HK15.out.below (Nat.le_refl _) (by simp)⟩
            · go_wp2
              go_ret
              exact ⟨rfl, HK15.out.below (Nat.le_refl _) (by simp)⟩
          | done D h1 h2 h3 h4 =>
            have HF4 := hide h4.name
            clear HPR HOFF h1 h2 h3 h4
            have hfl := files_ax HA15.out (by omega)
            have HNB4 : Hid (D4.files.length ≤ 30000000) := hide (by have := files_small HA15.out.wf HA15.out.bd; omega)
            generalize D4.files = fin at *
            go_upto_region 29 with (first
              | (go_at_call 17; refine hfl.mono ?_; rintro e w16 ⟨v5, vs5, rfl, hF5, hk16⟩; obtain ⟨fo, fc, rfl, _⟩ := own_shape hF5.row; have HK16 : Hid (Kept [] w w16) := hide (HK15.out.trans hk16 (by simp)); have hun := under_okz fo fin.length fc fin name w16 rfl (by have := HNB4.out; omega) (Fisz.of hF5).1; clear hfl hF5 hk16)
              | (go_at_call 14; refine hun.mono ?_; rintro e w17 ⟨g5, is5, rfl, ⟨x5, b5, c5, hv5⟩, k17, hw17⟩; obtain rfl := hv5.val; have HK17 : Hid (Kept [] w w17) := hide (HK16.out.trans (by rw [hw17]; exact (Kept.refl [] w16).drewN _) (by simp)); have HU5 : Hid (is5 = true ∧ x5 = d ∧ Sl w17 b5 x5) := hide (by (rcases hv5.fnd with ⟨h1, h2⟩ | ⟨_, h2, _⟩); (rw [HF4.out] at h2; injection h2 with h2; injection h2 with _ h2; exact ⟨h1, h2.symm, hv5.sl.kept (by rw [hw17]; exact (Kept.refl [] w16).drewN _) (by simp)⟩); (rw [HF4.out] at h2; cases h2)); clear hun hv5 hw17))
            obtain ⟨hi5, hx5, hs5⟩ := HU5.out
            subst hi5 hx5
            have hsm := same_yes b5 da dn c5 dc x5 w17 HDT.out.1 (by omega) hs5 (HDT.out.2.1.kept HK17.out (by simp))
            rw [HDT.out.1]
            clear HU5 hs5 HF4
            go_wp2_with (go_at_call 22; refine hsm.mono ?_; rintro e w18 ⟨rfl, kk, hk'⟩; have HK18 : Hid (Kept [] w w18) := hide (HK17.out.trans (by rw [hk']; exact (Kept.refl [] w17).drewN _) (by simp)); clear hsm hk')
            go_ret
            exact ⟨rfl, HK18.out.below (Nat.le_refl _) (by simp)⟩
end Go.Proofs.YtemlbmamcbmnjaaGreatDoor
