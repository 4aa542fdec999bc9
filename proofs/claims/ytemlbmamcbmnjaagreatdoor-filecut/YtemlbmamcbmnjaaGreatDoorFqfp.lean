/-
  FilePuts: the walk. (Written by tools/fqf.py.)
-/
import Derived.Test.YtemlbmamcbmnjaaGreatDoorFqbp
import Derived.Test.YtemlbmamcbmnjaaGreatDoorLdap
import Derived.Test.YtemlbmamcbmnjaaGreatDoorIf0p
namespace Go.Proofs.YtemlbmamcbmnjaaGreatDoor
open Go.RowKit Dsk
set_option linter.unusedVariables false
set_option linter.unusedSimpArgs false
theorem tmod_in (v : Int) (n : Nat) (h : 0 < n) : (v.tmod n < 0 → ∃ r : Nat, r < n ∧ v.tmod n + n = r) ∧ (¬ v.tmod n < 0 → ∃ r : Nat, r < n ∧ v.tmod n = r) := by
  have h1 := Int.lt_tmod_of_pos v (b := (n : Int)) (by omega)
  have h2 := Int.tmod_lt_of_pos v (b := (n : Int)) (by omega)
  exact ⟨fun h => ⟨(v.tmod n + n).toNat, by omega, by omega⟩, fun h => ⟨(v.tmod n).toNat, by omega, by omega⟩⟩
set_option maxRecDepth 100000 in
theorem round6_ok (v : Int) (n : Nat) (w : World) (hv : (Lit.int .i64 v).wf = true) (h0 : 0 < n) (hn : n ≤ 1073741824) : Calls Tryz.prog 8 #[.int .i64 v, .int .i64 n] w fun e w' => ∃ r : Nat, r < n ∧ e = .returned (.int .i64 r) ∧ w' = w := by
  have ht := tmod_in v n h0
  have hb : -(n : Int) < v.tmod n ∧ v.tmod n < n := ⟨Int.lt_tmod_of_pos v (by omega), Int.tmod_lt_of_pos v (by omega)⟩
  have hz : ((n : Int) == 0) = false := by simp; omega
  have hw : IntKind.i64.wrap (v.tmod n) = v.tmod n := IntWalk.i64_in _ (by omega)
  have hw2 : IntKind.i64.wrap (v.tmod n + n) = v.tmod n + n := IntWalk.i64_in _ (by omega)
  by_cases h : v.tmod n < 0
  · obtain ⟨r, hr, e⟩ := ht.1 h
    have HR := hide (And.intro hr e)
    clear ht hr e
    go_enter Tryz.func8, Tryz.ntmps8
    go_wp2
    go_ret
    exact ⟨r, HR.out.1, by rw [← HR.out.2]; rfl, rfl⟩
  · obtain ⟨r, hr, e⟩ := ht.2 h
    have HR := hide (And.intro hr e)
    clear ht hr e
    go_enter Tryz.func8, Tryz.ntmps8
    go_wp2
    go_ret
    exact ⟨r, HR.out.1, by rw [← HR.out.2]; rfl, rfl⟩
namespace Dsk
/-- What FilePuts asks. -/
structure PAsk (was now : List (By × By)) (n q d : By) (E : Int) (st : Nat) : Prop where
  done : E = 0 → isPut n = true ∧ fnd now n = some (n, d) ∧ fnd now q = none ∧ flt n q was = flt n q now ∧ st = (if (fnd was q).isSome = true then 6 else 5)
  full : E = 55 ∨ E = 56 → fnd now n = fnd was n ∧ fnd now q = none ∧ flt n q was = flt n q now
  name : E = 51 → isPut n = false ∧ st = 0 ∧ was = now
  all : E = 0 ∨ (E = 55 ∨ E = 56) ∨ E = 51
theorem puts_ask {S : Ds} {n d : By} (hs : AllSafe S) (hw : S.Wf) (hon : S.on = true) (hst : S.strokes = 0) (hoff : S.off ≤ 0) : AllSafe (S.put n d).2 ∧ PAsk S.files (S.put n d).2.files n (43 :: n) d (S.put n d).1 (S.put n d).2.strokes := by
  by_cases hp : isPut n = true
  · have h := put_does (d := d) hs hw hon hp
    have hg : (fnd S.files (43 :: n)).isSome = (S.shown.get (43 :: n)).isSome := by
      show (fnd (fls S.shown (fun k => (S.th k).shown)) (43 :: n)).isSome = _
      rw [fnd_fls]
      cases S.shown.get (43 :: n) <;> rfl
    generalize (S.put n d).1 = E at h ⊢
    generalize (S.put n d).2 = D at h ⊢
    cases h with
    | done D h1 h2 h3 h4 => exact ⟨h2, fun _ => ⟨hp, h4.name, h4.plus, h4.rest, by rw [h3, hst, hg, Nat.zero_add]⟩, (fun h => by omega), (fun h => by omega), .inl rfl⟩
    | full E D h0 h1 h2 h4 => exact ⟨h2, (fun h => by omega), fun _ => ⟨h4.name, h4.plus, h4.rest⟩, (fun h => by omega), .inr (.inl h0)⟩
    | cut D h1 h2 => omega
  · have hp' : isPut n = false := by simpa using hp
    have e : S.put n d = (51, S) := by unfold Ds.put; rw [if_neg hp]
    rw [e]
    exact ⟨hs, (fun h => by cases h), (fun h => by omega), fun _ => ⟨hp', hst, rfl⟩, .inr (.inr rfl)⟩
end Dsk
/-- What lies under a name, as `under` tells it. -/
theorem Und.of {w : World} {L : List (By × By)} {nm : By} {v : Value} {b : Bool} (h : Und w L nm v b) : (fnd L nm = none ∧ v = .slice none 0 0 ∧ b = false) ∨ ∃ (d : By) (bo : Option Addr) (bc : Nat), fnd L nm = some (nm, d) ∧ v = .slice bo d.length bc ∧ Sl w bo d ∧ b = true := by
  rcases h with h | ⟨f, bo, bc, h1, h2, h3, h4, h5⟩
  · exact .inl h
  · obtain ⟨a, d⟩ := f
    subst h2
    exact .inr ⟨d, bo, bc, h1, h3, h4, h5⟩

set_option maxHeartbeats 8000000 in
set_option maxRecDepth 100000 in
theorem puts_walk (room : Int) (ao : Option Addr) (n c : Nat) (name : By) (da : Option Addr) (dn dc : Nat) (full : Int) (po : Option Addr) (pn pc : Nat) (L : List (By × By)) (d : By) (ps : List Int) (w : World) (hg : Gl w) (hrw : (Lit.int .i64 room).wf = true) (hx : L.length = n) (hn : n ≤ 4611686018427387900) (hM : ∀ f ∈ L, f.1.length ≤ 4611686018427387900 ∧ f.2.length ≤ 4611686018427387900) (h1 : Fio w ao L) (hm : name.length ≤ 4611686018427387900) (hdl : d.length = dn) (hdn : dn ≤ 4611686018427387900) (hsd : Sl w da d) (hd0 : da = none → dn = 0) (hdb : d ≠ [] → ∀ a, da = some a → a.block < w.heap.size) (ho : (Lit.int .i64 full).wf = true)
    (hpl : ps.length = pn) (hpn : pn ≤ 17592186044416) (hpi : Ints w po ps) (hpw : ∀ i, (Lit.int .i64 (ps.getD i 0)).wf = true) (hpb : ps ≠ [] → ∀ a, po = some a → a.block < w.heap.size) :
    Calls Tryz.prog 4 #[.int .i64 room, .slice ao n c, .string ⟨name.toArray⟩, .slice da dn dc, .int .i64 full, .slice po pn pc] w fun e w' => e = .returned (.bool true) ∧ Below w.heap.size w w' := by
  have HG := hide hg
  have HP := hide (show ps.length = pn ∧ Ints w po ps ∧ (∀ i, (Lit.int .i64 (ps.getD i 0)).wf = true) ∧ (ps ≠ [] → ∀ a, po = some a → a.block < w.heap.size) from ⟨hpl, hpi, hpw, hpb⟩)
  have HDT := hide (show d.length = dn ∧ Sl w da d ∧ (da = none → dn = 0) ∧ (d ≠ [] → ∀ a, da = some a → a.block < w.heap.size) from ⟨hdl, hsd, hd0, hdb⟩)
  have HO := hide ho
  have hrd := round6_ok room 4000 w hrw (by decide) (by decide)
  have HLD := hide (fun r h => loaded_ok r ao n c L w hx hn h hM h1)
  have hcat : ¬ (9223372036854775807 < 1 + name.length) := by omega
  have hcat2 : ¬ ((9223372036854775807 : Int) < 1 + (name.length : Int)) := by omega
  have hcc : (ByteArray.mk #[43] ++ ByteArray.mk name.toArray) = ByteArray.mk (43 :: name).toArray := by apply ByteArray.ext; simp [ByteArray.data_append]
  clear hg hx hM h1 hpl hpi hpw hpb ho hn hdl hsd hd0 hdb hrw
  go_enter Tryz.func4, Tryz.ntmps4
  go_upto_region 2 with (go_at_call 8; refine hrd.mono ?_; rintro e w' ⟨r, hr, rfl, hww⟩; obtain rfl := hww.symm; clear hrd)
  have hld := HLD.out (1 + (r : Int)) (by omega)
  go_upto_region 3 with (go_at_call 13; refine hld.mono ?_; rintro e w1 ⟨p, A, o, S, v, vs, B, rfl, hPD, hs, hon, hst, hrm, hbd, hlab, hF, hk1⟩; obtain ⟨vo, vc, rfl, _⟩ := own_shape hF.row; have HGT := hide (got_of hPD hbd hlab hF hk1); have HS := hide (And.intro hs (And.intro hon (And.intro hst (And.intro hrm.2.1 HGT.out.ax.wf)))); have HSM : Hid (S.files.length ≤ 1048576 ∧ ∀ f ∈ S.files, f.2.length ≤ 2097152) := hide (by have := files_small (HGT.out.ax.wf) hbd; exact ⟨this.1, fun f hf => by have := this.2 f hf; omega⟩); clear hPD hs hon hst hrm hbd hlab hF hk1 hld A o)
  clear HLD
  have hkn := known6_ok w1 (HG.out.kept HGT.out.kept (by simp))
  go_upto_region 6 with (go_at_call 9; refine hkn.mono ?_; rintro e w2 ⟨rfl, hk2⟩; have HA2 := hide (HGT.out.ax.kept hk2); have HW2 := hide (HGT.out.was w2 (Keep.ofNone hk2)); clear hkn hk2)

  obtain ⟨plus, hplus⟩ : ∃ x : By, x = 43 :: name := ⟨_, rfl⟩
  rw [← hplus]
  have HPL := hide hplus
  clear hcc hcat hcat2 hplus
  have hu0 := under_ok vo S.files.length vc S.files plus w2 rfl (by have := HSM.out.1; omega) HW2.out
  go_upto_region 7 with (go_at_call 14; refine hu0.mono ?_; rintro e w2' ⟨g0, is0, rfl, hun, k2, hw2⟩; have HU0 := hide hun.of; have HA2' : Hid (Ax (fun b => b < w.heap.size ∨ (B ≤ b ∧ b < w1.heap.size)) w1 w2' p S 1048576) := hide (HA2.out.kept (by rw [hw2]; exact (Kept.refl [] w2).drewN _)); clear hu0 hun hw2)
  clear HA2 HW2
  have HIS : Hid (is0 = (fnd S.files plus).isSome) := hide (by rcases HU0.out with ⟨h, _, h2⟩ | ⟨_, _, _, h, _, _, h2⟩ <;> rw [h, h2] <;> rfl)
  clear HU0
  by_cases hof : 0 < full
  · have hpc := plan_ax HA2'.out 0 full full ⟨by decide, HO.out, HO.out⟩
    go_upto_region 9 with (go_at_call 15; refine hpc.mono ?_; rintro e w3 ⟨rfl, hA3⟩; have HA3 := hide hA3; clear hpc hA3)
    have HS2 : Hid (AllSafe (S.setPlan 0 full full) ∧ (S.setPlan 0 full full).on = true ∧ (S.setPlan 0 full full).strokes = 0 ∧ (S.setPlan 0 full full).off ≤ 0 ∧ (S.setPlan 0 full full).Wf ∧ (S.setPlan 0 full full).files = S.files) := hide ⟨HS.out.1.plan _ _ _, by simp [Ds.setPlan, HS.out.2.1], by simp [Ds.setPlan, HS.out.2.1, HS.out.2.2.1], by simp [Ds.setPlan, HS.out.2.1], HA3.out.wf, by simp [Ds.setPlan, HS.out.2.1, Ds.files]⟩
    generalize S.setPlan 0 full full = S2 at HA3 HS2
    clear HA2' HS
    have HSD : Hid (Sl w3 da d) := hide (HDT.out.2.1.kept (HGT.out.old HA3.out) (by simp))
    have hpu := put_any HA3.out name (ao := da) (cp := dc) (by omega) hdn hm HDT.out.1 HSD.out HDT.out.2.2.1 (fun h a e => .inl (HDT.out.2.2.2 h a e))
    have HAS := hide (puts_ask (n := name) (d := d) HS2.out.1 HS2.out.2.2.2.2.1 HS2.out.2.1 HS2.out.2.2.1 HS2.out.2.2.2.1)
    rw [HS2.out.2.2.2.2.2, ← HPL.out] at HAS
    go_upto_region 10 with (go_at_call 16; refine hpu.mono ?_; rintro e w4 ⟨ve, rfl, hev, hA4, hk4⟩; have HEV := hide hev; have HA4 := hide hA4; have HK4 := hide hk4; clear hpu hev hA4 hk4)
    generalize (S2.put name d).1 = E at HAS HEV
    generalize (S2.put name d).2 = D at HAS HA4
    clear HSD HA3 HS2
    obtain ⟨N4, hN4, hN4b⟩ : ∃ N4, 1048576 + min dn 1048576 + 20 = N4 ∧ N4 ≤ 3000000 := ⟨_, rfl, by omega⟩
    rw [hN4] at HA4
    clear hN4
    have hf4 := files_ax HA4.out (by omega)
    go_upto_region 11 with (go_at_call 17; refine hf4.mono ?_; rintro e w5 ⟨v2, vs2, rfl, hF2, hk5⟩; obtain ⟨no, nc, rfl, _⟩ := own_shape hF2.row; have HF5 := hide hF2; have HK5 := hide hk5; clear hf4 hF2 hk5)
    have HA5 := hide (HA4.out.more HK5.out)
    have hst := strokes_ax HA5.out
    have HNB : Hid (D.files.length ≤ 3000000 ∧ ∀ f ∈ D.files, f.2.length ≤ 6000000) := hide (by
      have := files_small HA4.out.wf HA4.out.bd
      exact ⟨by omega, fun f hf => by have := this.2 f hf; omega⟩)
    have hKO5 : Kept [] w w5 := by
      have k := HK4.out
      have h1 := HGT.out.kept
      exact Kept.trans ⟨k.os.trans h1.os, k.tape.trans h1.tape, k.output.trans h1.output, Nat.le_trans h1.size k.size, fun i hi _ => (k.block i (Nat.lt_of_lt_of_le hi h1.size) (fun hn => hn (.inl hi))).trans (h1.block i hi (by simp))⟩ HK5.out (by simp)
    have HKO5 := hide hKO5
    have hcr := crash_ax HA5.out (Kept.refl [] w5) (by omega) (c := pc) HP.out.1 (HP.out.2.1.kept (Keep.ofNone (F := fun _ => False) hKO5) (fun _ _ _ h => h)) HP.out.2.2.1 hpn (fun h a e => .inr (.inl (.inl (.inl (HP.out.2.2.2 h a e)))))
    clear hKO5
    go_upto_region 13 with (first
      | (go_at_call 18; refine hst.mono ?_; rintro e w' ⟨rfl, hww⟩; obtain rfl := hww.symm; clear hst)
      | (go_at_call 19; refine hcr.mono ?_; rintro e w6 ⟨rfl, hA6⟩; have HA6 := hide hA6; clear hcr hA6))
    have HST : Hid (PAsk S.files D.files name plus d E D.strokes) := hide HAS.out.2
    have HCF : Hid ((D.crash ps).files = D.files) := hide (HAS.out.1.crash ps)
    have hf6 := files_ax HA6.out (by omega)
    rw [HCF.out] at hf6
    clear HAS HCF
    have HNW6 : Hid (Fis w6 no D.files ∧ D.files.length = D.files.length) := hide ⟨by
      refine (Fis.of (HF5.out.keep HA6.out.old (fun g hg hn => hn (.inr ?_)) (fun u hu g hg hn => hn (.inr ⟨HF5.out.new u hu g hg, HF5.out.val_lt hu hg⟩)))).1
      exact HF5.out.row.lt g hg, rfl⟩
    have hK16 : Keep (fun b => ¬ (b < w.heap.size ∨ (B ≤ b ∧ b < w1.heap.size))) w1 w6 := ((HK4.out.kept HK5.out)).trans HA6.out.old (fun i e _ h => e (.inl (.inl h)))
    have HW6 : Hid (Fis w6 vo S.files ∧ Kept [] w w6) := hide (by
      refine ⟨HGT.out.was w6 hK16, ?_⟩
      have h1 := HGT.out.kept
      exact ⟨hK16.os.trans h1.os, hK16.tape.trans h1.tape, hK16.output.trans h1.output, Nat.le_trans h1.size hK16.size, fun i hi _ => (hK16.block i (Nat.lt_of_lt_of_le hi h1.size) (fun hn => hn (.inl hi))).trans (h1.block i hi (by simp))⟩)
    have HE6 : Hid (ErrV w6 ve opPut name E) := hide ((HEV.out.kept HK5.out).keepE HA6.out.old (fun b hb hn => hn (.inl (.inr hb))))
    clear hK16 HK4 HA4 HEV HF5 HA5
    generalize D.strokes = st at HST ⊢
    generalize D.files = now at *
    generalize S.files = was at *
    go_upto_region 15 with (first
      | (go_at_call 17; refine hf6.mono ?_; rintro e w7 ⟨v3, vs3, rfl, hF3, hk7⟩; obtain ⟨mo, mc, rfl, _⟩ := own_shape hF3.row; have HK7 := hide hk7; have hfy := files6_yes mo no now.length mc nc now w7 rfl (by have := HNB.out.1; omega) (fun f hf => by have := HNB.out.2 f hf; omega) (Fis.of hF3).1 (HNW6.out.1.kept hk7); clear hf6 hF3 hk7)
      | (go_at_call 20; have Ha := hfy; refine hfy.mono ?_; rintro e w8 ⟨rfl, k8, hw8⟩; have HK8 : Hid (Kept [] w7 w8) := hide (by rw [hw8]; exact (Kept.refl [] w7).drewN _); clear Ha hfy hw8))
    have HK68 : Hid (Kept [] w6 w8) := hide (HK7.out.trans HK8.out (by simp))
    clear HK7 HK8
    have hu1 := under_ok no now.length nc now name w8 rfl (by have := HNB.out.1; omega) (HNW6.out.1.kept HK68.out)
    go_upto_region 16 with (go_at_call 14; refine hu1.mono ?_; rintro e w9 ⟨g1, is1, rfl, hun, k9, hw9⟩; have HU1 := hide hun.of; have HK9 : Hid (Kept [] w8 w9) := hide (by rw [hw9]; exact (Kept.refl [] w8).drewN _); clear hu1 hun hw9)
    have hu2 := under_ok vo was.length vc was name w9 rfl (by have := HSM.out.1; omega) ((HW6.out.1.kept HK68.out).kept HK9.out)
    go_upto_region 17 with (go_at_call 14; refine hu2.mono ?_; rintro e w10 ⟨g2, is2, rfl, hun, k10, hw10⟩; have HU2 := hide hun.of; have HK10 : Hid (Kept [] w9 w10) := hide (by rw [hw10]; exact (Kept.refl [] w9).drewN _); clear hu2 hun hw10)
    have hu3 := under_ok no now.length nc now plus w10 rfl (by have := HNB.out.1; omega) (((HNW6.out.1.kept HK68.out).kept HK9.out).kept HK10.out)
    go_upto_region 18 with (go_at_call 14; refine hu3.mono ?_; rintro e w11 ⟨g3, is3, rfl, hun, k11, hw11⟩; have HU3 := hide hun.of; have HK11 : Hid (Kept [] w10 w11) := hide (by rw [hw11]; exact (Kept.refl [] w10).drewN _); clear hu3 hun hw11)
    have HK611 : Hid (Kept [] w6 w11) := hide (((HK68.out.trans HK9.out (by simp)).trans HK10.out (by simp)).trans HK11.out (by simp))
    have hcd := code_any ve opPut name E w11 ((HG.out.kept HW6.out.2 (by simp)).kept HK611.out (by simp)) (HE6.out.kept HK611.out)
    go_upto_region 19 with (go_at_call 21; refine hcd.mono ?_; rintro e w12 ⟨rfl, hk12⟩; have HK12 := hide hk12; clear hcd hk12)
    have HF12 : Hid (Fis w12 vo was ∧ Fis w12 no now ∧ Kept [] w w12 ∧ Kept [] w9 w12 ∧ Kept [] w10 w12) := hide ⟨(HW6.out.1.kept HK611.out).kept HK12.out, (HNW6.out.1.kept HK611.out).kept HK12.out, (HW6.out.2.trans HK611.out (by simp)).trans HK12.out (by simp), (HK10.out.trans HK11.out (by simp)).trans HK12.out (by simp), HK11.out.trans HK12.out (by simp)⟩
    have HFIN : Hid (∀ w', Kept [] w12 w' → Below w.heap.size w w') := hide (fun w' hk => (HF12.out.2.2.1.trans hk (by simp)).below (Nat.le_refl _) (by simp))
    have HOT : Hid (flt name plus was = flt name plus now → ∀ w', Kept [] w12 w' → Calls Tryz.prog 24 #[.slice vo was.length vc, .slice no now.length nc, encStr name, encStr plus] w' fun e w'' => e = .returned (.bool true) ∧ Kept [] w' w'') := hide (fun he w' hk => others_yes vo no _ vc _ nc was now name plus w' rfl rfl (by have := HSM.out.1; omega) (by have := HNB.out.1; omega) (fun f hf => by have := HSM.out.2 f hf; omega) (HF12.out.1.kept hk) (HF12.out.2.1.kept hk) he)
    have HIN : Hid (is0 = (fnd was plus).isSome) := HIS
    have HK812 : Hid (Kept [] w8 w12) := hide (((HK9.out.trans HK10.out (by simp)).trans HK11.out (by simp)).trans HK12.out (by simp))
    clear HE6 HW6 HNW6 HK68 HK9 HK10 HK11 HK611 HK12
    rcases HST.out.all with hE | hE | hE
    · obtain ⟨q0, q1, q2, q3, q4⟩ := HST.out.done hE
      have hoth := HOT.out q3
      obtain rfl : is3 = false := by rcases HU3.out with ⟨_, _, h⟩ | ⟨_, _, _, h, _⟩; exact h; rw [q2] at h; cases h
      rcases HU1.out with ⟨h, _⟩ | ⟨d1, bo1, bc1, h, u1, u2, u3⟩
      · rw [q1] at h; cases h
      rw [q1] at h
      injection h with h
      injection h with _ h
      subst h
      subst u1 u3
      have hsm := same_yes bo1 da dn bc1 dc d w12 HDT.out.1 (by omega) (u2.kept HK812.out (by simp)) (HDT.out.2.1.kept HF12.out.2.2.1 (by simp))
      have hly := fun w' => lays_ok name w' hm
      rw [q0] at hly
      rw [← HIN.out] at q4
      subst hE
      have HQ4 := hide q4
      have HOTH := hide hoth
      rw [HDT.out.1]
      clear HST HU1 HU2 HU3 HOT q1 q2 q3 u2 hoth HIS HIN HSM HNB
      generalize was.length = zw at *
      generalize now.length = zn at *
      cases is0
      · obtain rfl : st = 5 := HQ4.out
        clear HQ4 q4
        go_wp2_with (first
          | (go_at_call 22; refine hsm.mono ?_; rintro e wx ⟨rfl, kk, hk'⟩; have HKX : Hid (Kept [] w12 wx) := hide (by rw [hk']; exact (Kept.refl [] w12).drewN _); clear hsm hk')
          | (go_at_call 23; refine (hly _).mono ?_; rintro e w' ⟨rfl, hww⟩; obtain rfl := hww.symm)
          | (go_at_call 24; refine (HOTH.out _ HKX.out).mono ?_; rintro e w' ⟨rfl, hk'⟩; have HKE := hide (HKX.out.trans hk' (by simp)); clear hk'))
        go_ret
        exact ⟨rfl, HFIN.out _ HKE.out⟩
      · obtain rfl : st = 6 := HQ4.out
        clear HQ4 q4
        go_wp2_with (first
          | (go_at_call 22; refine hsm.mono ?_; rintro e wx ⟨rfl, kk, hk'⟩; have HKX : Hid (Kept [] w12 wx) := hide (by rw [hk']; exact (Kept.refl [] w12).drewN _); clear hsm hk')
          | (go_at_call 23; refine (hly _).mono ?_; rintro e w' ⟨rfl, hww⟩; obtain rfl := hww.symm)
          | (go_at_call 24; refine (HOTH.out _ HKX.out).mono ?_; rintro e w' ⟨rfl, hk'⟩; have HKE := hide (HKX.out.trans hk' (by simp)); clear hk'))
        go_ret
        exact ⟨rfl, HFIN.out _ HKE.out⟩
    · obtain ⟨q1, q2, q3⟩ := HST.out.full hE
      have hoth := HOT.out q3
      obtain rfl : is3 = false := by rcases HU3.out with ⟨_, _, h⟩ | ⟨_, _, _, h, _⟩; exact h; rw [q2] at h; cases h
      have HSAM : Hid (is1 = is2 ∧ ∃ b1 n1 c1 b2 c2, g1 = .slice b1 n1 c1 ∧ g2 = .slice b2 n1 c2 ∧ Calls Tryz.prog 22 #[.slice b1 n1 c1, .slice b2 n1 c2] w12 fun e w' => e = .returned (.bool true) ∧ ∃ k, w' = w12.drewN k) := hide (by
        rcases HU1.out with ⟨h1, h2, h3⟩ | ⟨d1, b1, c1, h1, h2, h3, h4⟩ <;> rcases HU2.out with ⟨j1, j2, j3⟩ | ⟨d2, b2, c2, j1, j2, j3, j4⟩
        · exact ⟨by rw [h3, j3], none, 0, 0, none, 0, h2, j2, same_yes none none 0 0 0 [] w12 rfl (by decide) (fun i hi => by simp at hi) (fun i hi => by simp at hi)⟩
        · rw [h1, j1] at q1; cases q1
        · rw [h1, j1] at q1; cases q1
        · rw [h1, j1] at q1
          injection q1 with q1
          injection q1 with _ q1
          subst q1
          have hl1 : d1.length ≤ 2097152 := HSM.out.2 _ (List.mem_of_find?_eq_some j1)
          exact ⟨by rw [h4, j4], b1, _, c1, b2, c2, h2, j2, same_yes b1 b2 _ c1 c2 d1 w12 rfl (by omega) (h3.kept HK812.out (by simp)) (j3.kept HF12.out.2.2.2.1 (by simp))⟩)
      obtain ⟨h12, b1, n1, c1, b2, c2, e1, e2, hsm⟩ := HSAM.out
      subst h12 e1 e2
      have HOTH := hide hoth
      clear HST HU1 HU2 HU3 HOT q1 q2 q3 hoth HSAM HIS HIN HSM HNB
      generalize was.length = zw at *
      generalize now.length = zn at *
      rcases hE with hE | hE
      · subst hE
        go_wp2_with (first
          | (go_at_call 22; refine hsm.mono ?_; rintro e wx ⟨rfl, kk, hk'⟩; have HKX : Hid (Kept [] w12 wx) := hide (by rw [hk']; exact (Kept.refl [] w12).drewN _); clear hsm hk')
          | (go_at_call 24; refine (HOTH.out _ HKX.out).mono ?_; rintro e w' ⟨rfl, hk'⟩; have HKE := hide (HKX.out.trans hk' (by simp)); clear hk'))
        go_ret
        exact ⟨rfl, HFIN.out _ HKE.out⟩
      · subst hE
        go_wp2_with (first
          | (go_at_call 22; refine hsm.mono ?_; rintro e wx ⟨rfl, kk, hk'⟩; have HKX : Hid (Kept [] w12 wx) := hide (by rw [hk']; exact (Kept.refl [] w12).drewN _); clear hsm hk')
          | (go_at_call 24; refine (HOTH.out _ HKX.out).mono ?_; rintro e w' ⟨rfl, hk'⟩; have HKE := hide (HKX.out.trans hk' (by simp)); clear hk'))
        go_ret
        exact ⟨rfl, HFIN.out _ HKE.out⟩
    · obtain ⟨q0, q1, q2⟩ := HST.out.name hE
      have hly := fun w' => lays_ok name w' hm
      rw [q0] at hly
      have hfy := files6_yes vo no was.length vc nc was w12 rfl (by have := HSM.out.1; omega) (fun f hf => by have := HSM.out.2 f hf; omega) HF12.out.1 (by rw [q2]; exact HF12.out.2.1)
      have hww : now.length = was.length := by rw [q2]
      rw [hww]
      subst hE q1
      clear HST HU1 HU2 HU3 HOT HIS HIN q2 hww HSM HNB
      generalize was.length = zw at *
      go_wp2_with (first
        | (go_at_call 23; refine (hly _).mono ?_; rintro e w' ⟨rfl, hww⟩; obtain rfl := hww.symm)
        | (go_at_call 20; refine hfy.mono ?_; rintro e wx ⟨rfl, kk, hk'⟩; have HKX : Hid (Kept [] w12 wx) := hide (by rw [hk']; exact (Kept.refl [] w12).drewN _); clear hfy hk'))
      go_ret
      exact ⟨rfl, HFIN.out _ HKX.out⟩
  · go_upto_region 9 with (fail)
    have HS1 : Hid (AllSafe S ∧ S.on = true ∧ S.strokes = 0 ∧ S.off ≤ 0 ∧ S.Wf ∧ S.files = S.files) := hide ⟨HS.out.1, HS.out.2.1, HS.out.2.2.1, by rw [HS.out.2.2.2.1]; decide, HS.out.2.2.2.2, rfl⟩
    obtain ⟨S2, HA3, HS2⟩ : ∃ S2, Hid (Ax (fun b => b < w.heap.size ∨ (B ≤ b ∧ b < w1.heap.size)) w1 w2' p S2 1048576) ∧ Hid (AllSafe S2 ∧ S2.on = true ∧ S2.strokes = 0 ∧ S2.off ≤ 0 ∧ S2.Wf ∧ S2.files = S.files) := ⟨S, HA2', HS1⟩
    clear HS1
    generalize w2' = w3 at HA3 ⊢
    clear HA2' HS
    have HSD : Hid (Sl w3 da d) := hide (HDT.out.2.1.kept (HGT.out.old HA3.out) (by simp))
    have hpu := put_any HA3.out name (ao := da) (cp := dc) (by omega) hdn hm HDT.out.1 HSD.out HDT.out.2.2.1 (fun h a e => .inl (HDT.out.2.2.2 h a e))
    have HAS := hide (puts_ask (n := name) (d := d) HS2.out.1 HS2.out.2.2.2.2.1 HS2.out.2.1 HS2.out.2.2.1 HS2.out.2.2.2.1)
    rw [HS2.out.2.2.2.2.2, ← HPL.out] at HAS
    go_upto_region 10 with (go_at_call 16; refine hpu.mono ?_; rintro e w4 ⟨ve, rfl, hev, hA4, hk4⟩; have HEV := hide hev; have HA4 := hide hA4; have HK4 := hide hk4; clear hpu hev hA4 hk4)
    generalize (S2.put name d).1 = E at HAS HEV
    generalize (S2.put name d).2 = D at HAS HA4
    clear HSD HA3 HS2
    obtain ⟨N4, hN4, hN4b⟩ : ∃ N4, 1048576 + min dn 1048576 + 20 = N4 ∧ N4 ≤ 3000000 := ⟨_, rfl, by omega⟩
    rw [hN4] at HA4
    clear hN4
    have hf4 := files_ax HA4.out (by omega)
    go_upto_region 11 with (go_at_call 17; refine hf4.mono ?_; rintro e w5 ⟨v2, vs2, rfl, hF2, hk5⟩; obtain ⟨no, nc, rfl, _⟩ := own_shape hF2.row; have HF5 := hide hF2; have HK5 := hide hk5; clear hf4 hF2 hk5)
    have HA5 := hide (HA4.out.more HK5.out)
    have hst := strokes_ax HA5.out
    have HNB : Hid (D.files.length ≤ 3000000 ∧ ∀ f ∈ D.files, f.2.length ≤ 6000000) := hide (by
      have := files_small HA4.out.wf HA4.out.bd
      exact ⟨by omega, fun f hf => by have := this.2 f hf; omega⟩)
    have hKO5 : Kept [] w w5 := by
      have k := HK4.out
      have h1 := HGT.out.kept
      exact Kept.trans ⟨k.os.trans h1.os, k.tape.trans h1.tape, k.output.trans h1.output, Nat.le_trans h1.size k.size, fun i hi _ => (k.block i (Nat.lt_of_lt_of_le hi h1.size) (fun hn => hn (.inl hi))).trans (h1.block i hi (by simp))⟩ HK5.out (by simp)
    have HKO5 := hide hKO5
    have hcr := crash_ax HA5.out (Kept.refl [] w5) (by omega) (c := pc) HP.out.1 (HP.out.2.1.kept (Keep.ofNone (F := fun _ => False) hKO5) (fun _ _ _ h => h)) HP.out.2.2.1 hpn (fun h a e => .inr (.inl (.inl (.inl (HP.out.2.2.2 h a e)))))
    clear hKO5
    go_upto_region 13 with (first
      | (go_at_call 18; refine hst.mono ?_; rintro e w' ⟨rfl, hww⟩; obtain rfl := hww.symm; clear hst)
      | (go_at_call 19; refine hcr.mono ?_; rintro e w6 ⟨rfl, hA6⟩; have HA6 := hide hA6; clear hcr hA6))
    have HST : Hid (PAsk S.files D.files name plus d E D.strokes) := hide HAS.out.2
    have HCF : Hid ((D.crash ps).files = D.files) := hide (HAS.out.1.crash ps)
    have hf6 := files_ax HA6.out (by omega)
    rw [HCF.out] at hf6
    clear HAS HCF
    have HNW6 : Hid (Fis w6 no D.files ∧ D.files.length = D.files.length) := hide ⟨by
      refine (Fis.of (HF5.out.keep HA6.out.old (fun g hg hn => hn (.inr ?_)) (fun u hu g hg hn => hn (.inr ⟨HF5.out.new u hu g hg, HF5.out.val_lt hu hg⟩)))).1
      exact HF5.out.row.lt g hg, rfl⟩
    have hK16 : Keep (fun b => ¬ (b < w.heap.size ∨ (B ≤ b ∧ b < w1.heap.size))) w1 w6 := ((HK4.out.kept HK5.out)).trans HA6.out.old (fun i e _ h => e (.inl (.inl h)))
    have HW6 : Hid (Fis w6 vo S.files ∧ Kept [] w w6) := hide (by
      refine ⟨HGT.out.was w6 hK16, ?_⟩
      have h1 := HGT.out.kept
      exact ⟨hK16.os.trans h1.os, hK16.tape.trans h1.tape, hK16.output.trans h1.output, Nat.le_trans h1.size hK16.size, fun i hi _ => (hK16.block i (Nat.lt_of_lt_of_le hi h1.size) (fun hn => hn (.inl hi))).trans (h1.block i hi (by simp))⟩)
    have HE6 : Hid (ErrV w6 ve opPut name E) := hide ((HEV.out.kept HK5.out).keepE HA6.out.old (fun b hb hn => hn (.inl (.inr hb))))
    clear hK16 HK4 HA4 HEV HF5 HA5
    generalize D.strokes = st at HST ⊢
    generalize D.files = now at *
    generalize S.files = was at *
    go_upto_region 15 with (first
      | (go_at_call 17; refine hf6.mono ?_; rintro e w7 ⟨v3, vs3, rfl, hF3, hk7⟩; obtain ⟨mo, mc, rfl, _⟩ := own_shape hF3.row; have HK7 := hide hk7; have hfy := files6_yes mo no now.length mc nc now w7 rfl (by have := HNB.out.1; omega) (fun f hf => by have := HNB.out.2 f hf; omega) (Fis.of hF3).1 (HNW6.out.1.kept hk7); clear hf6 hF3 hk7)
      | (go_at_call 20; have Ha := hfy; refine hfy.mono ?_; rintro e w8 ⟨rfl, k8, hw8⟩; have HK8 : Hid (Kept [] w7 w8) := hide (by rw [hw8]; exact (Kept.refl [] w7).drewN _); clear Ha hfy hw8))
    have HK68 : Hid (Kept [] w6 w8) := hide (HK7.out.trans HK8.out (by simp))
    clear HK7 HK8
    have hu1 := under_ok no now.length nc now name w8 rfl (by have := HNB.out.1; omega) (HNW6.out.1.kept HK68.out)
    go_upto_region 16 with (go_at_call 14; refine hu1.mono ?_; rintro e w9 ⟨g1, is1, rfl, hun, k9, hw9⟩; have HU1 := hide hun.of; have HK9 : Hid (Kept [] w8 w9) := hide (by rw [hw9]; exact (Kept.refl [] w8).drewN _); clear hu1 hun hw9)
    have hu2 := under_ok vo was.length vc was name w9 rfl (by have := HSM.out.1; omega) ((HW6.out.1.kept HK68.out).kept HK9.out)
    go_upto_region 17 with (go_at_call 14; refine hu2.mono ?_; rintro e w10 ⟨g2, is2, rfl, hun, k10, hw10⟩; have HU2 := hide hun.of; have HK10 : Hid (Kept [] w9 w10) := hide (by rw [hw10]; exact (Kept.refl [] w9).drewN _); clear hu2 hun hw10)
    have hu3 := under_ok no now.length nc now plus w10 rfl (by have := HNB.out.1; omega) (((HNW6.out.1.kept HK68.out).kept HK9.out).kept HK10.out)
    go_upto_region 18 with (go_at_call 14; refine hu3.mono ?_; rintro e w11 ⟨g3, is3, rfl, hun, k11, hw11⟩; have HU3 := hide hun.of; have HK11 : Hid (Kept [] w10 w11) := hide (by rw [hw11]; exact (Kept.refl [] w10).drewN _); clear hu3 hun hw11)
    have HK611 : Hid (Kept [] w6 w11) := hide (((HK68.out.trans HK9.out (by simp)).trans HK10.out (by simp)).trans HK11.out (by simp))
    have hcd := code_any ve opPut name E w11 ((HG.out.kept HW6.out.2 (by simp)).kept HK611.out (by simp)) (HE6.out.kept HK611.out)
    go_upto_region 19 with (go_at_call 21; refine hcd.mono ?_; rintro e w12 ⟨rfl, hk12⟩; have HK12 := hide hk12; clear hcd hk12)
    have HF12 : Hid (Fis w12 vo was ∧ Fis w12 no now ∧ Kept [] w w12 ∧ Kept [] w9 w12 ∧ Kept [] w10 w12) := hide ⟨(HW6.out.1.kept HK611.out).kept HK12.out, (HNW6.out.1.kept HK611.out).kept HK12.out, (HW6.out.2.trans HK611.out (by simp)).trans HK12.out (by simp), (HK10.out.trans HK11.out (by simp)).trans HK12.out (by simp), HK11.out.trans HK12.out (by simp)⟩
    have HFIN : Hid (∀ w', Kept [] w12 w' → Below w.heap.size w w') := hide (fun w' hk => (HF12.out.2.2.1.trans hk (by simp)).below (Nat.le_refl _) (by simp))
    have HOT : Hid (flt name plus was = flt name plus now → ∀ w', Kept [] w12 w' → Calls Tryz.prog 24 #[.slice vo was.length vc, .slice no now.length nc, encStr name, encStr plus] w' fun e w'' => e = .returned (.bool true) ∧ Kept [] w' w'') := hide (fun he w' hk => others_yes vo no _ vc _ nc was now name plus w' rfl rfl (by have := HSM.out.1; omega) (by have := HNB.out.1; omega) (fun f hf => by have := HSM.out.2 f hf; omega) (HF12.out.1.kept hk) (HF12.out.2.1.kept hk) he)
    have HIN : Hid (is0 = (fnd was plus).isSome) := HIS
    have HK812 : Hid (Kept [] w8 w12) := hide (((HK9.out.trans HK10.out (by simp)).trans HK11.out (by simp)).trans HK12.out (by simp))
    clear HE6 HW6 HNW6 HK68 HK9 HK10 HK11 HK611 HK12
    rcases HST.out.all with hE | hE | hE
    · obtain ⟨q0, q1, q2, q3, q4⟩ := HST.out.done hE
      have hoth := HOT.out q3
      obtain rfl : is3 = false := by rcases HU3.out with ⟨_, _, h⟩ | ⟨_, _, _, h, _⟩; exact h; rw [q2] at h; cases h
      rcases HU1.out with ⟨h, _⟩ | ⟨d1, bo1, bc1, h, u1, u2, u3⟩
      · rw [q1] at h; cases h
      rw [q1] at h
      injection h with h
      injection h with _ h
      subst h
      subst u1 u3
      have hsm := same_yes bo1 da dn bc1 dc d w12 HDT.out.1 (by omega) (u2.kept HK812.out (by simp)) (HDT.out.2.1.kept HF12.out.2.2.1 (by simp))
      have hly := fun w' => lays_ok name w' hm
      rw [q0] at hly
      rw [← HIN.out] at q4
      subst hE
      have HQ4 := hide q4
      have HOTH := hide hoth
      rw [HDT.out.1]
      clear HST HU1 HU2 HU3 HOT q1 q2 q3 u2 hoth HIS HIN HSM HNB
      generalize was.length = zw at *
      generalize now.length = zn at *
      cases is0
      · obtain rfl : st = 5 := HQ4.out
        clear HQ4 q4
        go_wp2_with (first
          | (go_at_call 22; refine hsm.mono ?_; rintro e wx ⟨rfl, kk, hk'⟩; have HKX : Hid (Kept [] w12 wx) := hide (by rw [hk']; exact (Kept.refl [] w12).drewN _); clear hsm hk')
          | (go_at_call 23; refine (hly _).mono ?_; rintro e w' ⟨rfl, hww⟩; obtain rfl := hww.symm)
          | (go_at_call 24; refine (HOTH.out _ HKX.out).mono ?_; rintro e w' ⟨rfl, hk'⟩; have HKE := hide (HKX.out.trans hk' (by simp)); clear hk'))
        go_ret
        exact ⟨rfl, HFIN.out _ HKE.out⟩
      · obtain rfl : st = 6 := HQ4.out
        clear HQ4 q4
        go_wp2_with (first
          | (go_at_call 22; refine hsm.mono ?_; rintro e wx ⟨rfl, kk, hk'⟩; have HKX : Hid (Kept [] w12 wx) := hide (by rw [hk']; exact (Kept.refl [] w12).drewN _); clear hsm hk')
          | (go_at_call 23; refine (hly _).mono ?_; rintro e w' ⟨rfl, hww⟩; obtain rfl := hww.symm)
          | (go_at_call 24; refine (HOTH.out _ HKX.out).mono ?_; rintro e w' ⟨rfl, hk'⟩; have HKE := hide (HKX.out.trans hk' (by simp)); clear hk'))
        go_ret
        exact ⟨rfl, HFIN.out _ HKE.out⟩
    · obtain ⟨q1, q2, q3⟩ := HST.out.full hE
      have hoth := HOT.out q3
      obtain rfl : is3 = false := by rcases HU3.out with ⟨_, _, h⟩ | ⟨_, _, _, h, _⟩; exact h; rw [q2] at h; cases h
      have HSAM : Hid (is1 = is2 ∧ ∃ b1 n1 c1 b2 c2, g1 = .slice b1 n1 c1 ∧ g2 = .slice b2 n1 c2 ∧ Calls Tryz.prog 22 #[.slice b1 n1 c1, .slice b2 n1 c2] w12 fun e w' => e = .returned (.bool true) ∧ ∃ k, w' = w12.drewN k) := hide (by
        rcases HU1.out with ⟨h1, h2, h3⟩ | ⟨d1, b1, c1, h1, h2, h3, h4⟩ <;> rcases HU2.out with ⟨j1, j2, j3⟩ | ⟨d2, b2, c2, j1, j2, j3, j4⟩
        · exact ⟨by rw [h3, j3], none, 0, 0, none, 0, h2, j2, same_yes none none 0 0 0 [] w12 rfl (by decide) (fun i hi => by simp at hi) (fun i hi => by simp at hi)⟩
        · rw [h1, j1] at q1; cases q1
        · rw [h1, j1] at q1; cases q1
        · rw [h1, j1] at q1
          injection q1 with q1
          injection q1 with _ q1
          subst q1
          have hl1 : d1.length ≤ 2097152 := HSM.out.2 _ (List.mem_of_find?_eq_some j1)
          exact ⟨by rw [h4, j4], b1, _, c1, b2, c2, h2, j2, same_yes b1 b2 _ c1 c2 d1 w12 rfl (by omega) (h3.kept HK812.out (by simp)) (j3.kept HF12.out.2.2.2.1 (by simp))⟩)
      obtain ⟨h12, b1, n1, c1, b2, c2, e1, e2, hsm⟩ := HSAM.out
      subst h12 e1 e2
      have HOTH := hide hoth
      clear HST HU1 HU2 HU3 HOT q1 q2 q3 hoth HSAM HIS HIN HSM HNB
      generalize was.length = zw at *
      generalize now.length = zn at *
      rcases hE with hE | hE
      · subst hE
        go_wp2_with (first
          | (go_at_call 22; refine hsm.mono ?_; rintro e wx ⟨rfl, kk, hk'⟩; have HKX : Hid (Kept [] w12 wx) := hide (by rw [hk']; exact (Kept.refl [] w12).drewN _); clear hsm hk')
          | (go_at_call 24; refine (HOTH.out _ HKX.out).mono ?_; rintro e w' ⟨rfl, hk'⟩; have HKE := hide (HKX.out.trans hk' (by simp)); clear hk'))
        go_ret
        exact ⟨rfl, HFIN.out _ HKE.out⟩
      · subst hE
        go_wp2_with (first
          | (go_at_call 22; refine hsm.mono ?_; rintro e wx ⟨rfl, kk, hk'⟩; have HKX : Hid (Kept [] w12 wx) := hide (by rw [hk']; exact (Kept.refl [] w12).drewN _); clear hsm hk')
          | (go_at_call 24; refine (HOTH.out _ HKX.out).mono ?_; rintro e w' ⟨rfl, hk'⟩; have HKE := hide (HKX.out.trans hk' (by simp)); clear hk'))
        go_ret
        exact ⟨rfl, HFIN.out _ HKE.out⟩
    · obtain ⟨q0, q1, q2⟩ := HST.out.name hE
      have hly := fun w' => lays_ok name w' hm
      rw [q0] at hly
      have hfy := files6_yes vo no was.length vc nc was w12 rfl (by have := HSM.out.1; omega) (fun f hf => by have := HSM.out.2 f hf; omega) HF12.out.1 (by rw [q2]; exact HF12.out.2.1)
      have hww : now.length = was.length := by rw [q2]
      rw [hww]
      subst hE q1
      clear HST HU1 HU2 HU3 HOT HIS HIN q2 hww HSM HNB
      generalize was.length = zw at *
      go_wp2_with (first
        | (go_at_call 23; refine (hly _).mono ?_; rintro e w' ⟨rfl, hww⟩; obtain rfl := hww.symm)
        | (go_at_call 20; refine hfy.mono ?_; rintro e wx ⟨rfl, kk, hk'⟩; have HKX : Hid (Kept [] w12 wx) := hide (by rw [hk']; exact (Kept.refl [] w12).drewN _); clear hfy hk'))
      go_ret
      exact ⟨rfl, HFIN.out _ HKX.out⟩
end Go.Proofs.YtemlbmamcbmnjaaGreatDoor
