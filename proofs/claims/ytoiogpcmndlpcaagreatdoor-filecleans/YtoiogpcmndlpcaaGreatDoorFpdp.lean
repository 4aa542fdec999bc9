/-
  FileCleans: the walk. (Written by tools/fpd.py.)
-/
import Derived.Test.YtoiogpcmndlpcaaGreatDoorIf0p
import Derived.Test.YtoiogpcmndlpcaaGreatDoorFpbp
import Derived.Test.YtoiogpcmndlpcaaGreatDoorFojp
namespace Go.Proofs.YtoiogpcmndlpcaaGreatDoor
open Go.RowKit Dsk
set_option linter.unusedVariables false
set_option linter.unusedSimpArgs false
namespace Dsk
theorem files_find {S : Ds} (hw : S.Wf) {f : By × By} (h : f ∈ S.files) : S.files.find? (fun g => g.1 == f.1) = some f := by
  have hnd : (S.files.map (·.1)).Nodup := by
    have : S.files.map (·.1) = S.shown.keys := by simp [Nm.keys, Ds.files]
    rw [this]
    exact Nm.Up.nodup (by rw [hw.shown]; exact runN_up hw.up _)
  generalize S.files = l at h hnd
  induction l with
  | nil => cases h
  | cons x r ih =>
    simp only [List.map_cons, List.nodup_cons] at hnd
    rcases List.mem_cons.1 h with rfl | h
    · simp
    · have hne : (x.1 == f.1) = false := by
        rw [beq_eq_false_iff_ne]
        intro e
        exact hnd.1 (by rw [e]; exact List.mem_map.2 ⟨f, h, rfl⟩)
      rw [List.find?_cons, hne]
      exact ih h hnd.2
theorem files_nm {S : Ds} (hw : S.Wf) {f : By × By} (h : f ∈ S.files) : f.1.length ≤ 112 := by
  obtain ⟨p, hp, rfl⟩ := List.mem_map.1 h
  exact isNm_len (hw.snm p hp)
end Dsk

theorem kept_of_keep6 {w w3 w5 : World} {Y : Nat → Prop} (h : Kept [] w w3) (hk : Keep (fun b => ¬ Y b) w3 w5) (hY : ∀ b, b < w.heap.size → Y b) : Kept [] w w5 :=
  ⟨hk.os.trans h.os, hk.tape.trans h.tape, hk.output.trans h.output, Nat.le_trans h.size hk.size, fun i hi _ => (hk.block i (Nat.lt_of_lt_of_le hi h.size) (fun hn => hn (hY i hi))).trans (h.block i hi (by simp))⟩

set_option maxHeartbeats 8000000 in
set_option maxRecDepth 100000 in
theorem cleans_walk (ao : Option Addr) (n c : Nat) (q : By) (off : Int) (po : Option Addr) (pn pc : Nat) (L : List (By × By)) (ps : List Int) (w : World) (hg : Gl w) (hx : L.length = n) (hn : n ≤ 4611686018427387900) (hM : ∀ f ∈ L, f.1.length ≤ 4611686018427387900 ∧ f.2.length ≤ 4611686018427387900) (h1 : Fio w ao L) (hm : q.length ≤ 4611686018427387900) (ho : (Lit.int .i64 off).wf = true)
    (hpl : ps.length = pn) (hpn : pn ≤ 17592186044416) (hpi : Ints w po ps) (hpw : ∀ i, (Lit.int .i64 (ps.getD i 0)).wf = true) (hpb : ps ≠ [] → ∀ a, po = some a → a.block < w.heap.size) :
    Calls Tryz.prog 4 #[.slice ao n c, .string ⟨q.toArray⟩, .int .i64 off, .slice po pn pc] w fun e w' => e = .returned (.bool true) ∧ Below w.heap.size w w' := by
  have hld := loaded_ok 4000 ao n c L w hx hn (by decide) hM h1
  have HG := hide hg
  have HP := hide (show ps.length = pn ∧ Ints w po ps ∧ (∀ i, (Lit.int .i64 (ps.getD i 0)).wf = true) ∧ (ps ≠ [] → ∀ a, po = some a → a.block < w.heap.size) from ⟨hpl, hpi, hpw, hpb⟩)
  have HO := hide ho
  clear hg hx hM h1 hpl hpi hpw hpb ho hn
  go_enter Tryz.func4, Tryz.ntmps4
  go_upto_region 2 with (go_at_call 11; refine hld.mono ?_; rintro e w1 ⟨p, A, o, S, v, vs, B, rfl, hPD, hs, hon, hst, hrm, hbd, hlab, hF, hk1⟩; obtain ⟨vo, vc, rfl, _⟩ := own_shape hF.row; have HGT := hide (got_of hPD hbd hlab hF hk1); have HFZ := hide (Fisz.of hF).1; have HS := hide (And.intro hs (And.intro hon hst)); have HSM : Hid (S.files.length ≤ 1048576 ∧ ∀ f ∈ S.files, f.2.length ≤ 2097152) := hide (by have := files_small (HGT.out.ax.wf) hbd; exact ⟨this.1, fun f hf => by have := this.2 f hf; omega⟩); have HWF := hide HGT.out.ax.wf; clear hPD hs hon hst hrm hbd hlab hF hk1 hld A o)
  have hkn := known6_ok w1 (HG.out.kept HGT.out.kept (by simp))
  go_upto_region 4 with (go_at_call 7; refine hkn.mono ?_; rintro e w2 ⟨rfl, hk2⟩; have HA2 := hide (HGT.out.ax.kept hk2); have HK2 := hide hk2; clear hkn hk2)
  have HF2 : Hid (Fisz w2 (fun b => b < w.heap.size ∨ (B ≤ b ∧ b < w1.heap.size)) vo S.files) := hide ((HFZ.out.kept HK2.out).wide (fun b hb => .inr hb))
  obtain ⟨fs, hfs⟩ : ∃ fs, S.files = fs := ⟨_, rfl⟩
  have HFN : Hid (∀ f ∈ fs, fs.find? (fun g => g.1 == f.1) = some f ∧ f.1.length ≤ 112) := hide (fun f hf => by rw [← hfs] at hf ⊢; exact ⟨files_find HWF.out hf, files_nm HWF.out hf⟩)
  rw [hfs] at HF2 HSM
  obtain ⟨zw, hzw⟩ : ∃ zw, fs.length = zw := ⟨_, rfl⟩
  have HZW := hide hzw
  have hz1 : zw ≤ 1048576 := by rw [← hzw]; exact HSM.out.1
  rw [hfs, hzw]
  have HFS := hide hfs
  clear HFZ hfs hzw
  go_wp2
  go_loopw [11, 12] (fun r i wr => ∃ (k m : Nat) (fo : Option Addr) (fc : Nat), k ≤ zw ∧ i = .int .i64 k ∧ r = .slice fo m fc ∧ m ≤ k ∧ Hid (∃ vs, Rowz (fun b => b < w.heap.size ∨ (B ≤ b ∧ b < w1.heap.size)) w2 wr (.slice fo m fc) (rest q (fs.take k)) vs)) (fun r i wr => zw - (intOf i).toNat)
  case atStart => exact ⟨0, 0, none, 0, Nat.zero_le _, rfl, rfl, Nat.le_refl _, hide ⟨[], Rowz.start _ w2⟩⟩
  case round =>
    obtain ⟨k, m, fo, fc, hk, rfl, rfl, hmk, HR⟩ := hrel
    by_cases hlt : k < zw
    · obtain ⟨b1, rfl, _, ⟨x, d⟩, hsx, e1, bo1, bc1, e2, s1, hz⟩ := HF2.out k (by rw [HZW.out]; exact hlt)
      obtain ⟨vs, hR⟩ := HR.out
      replace e1 := hR.rf.kept.cellOf e1 (by simp)
      replace e2 := hR.rf.kept.cellOf e2 (by simp)
      have htk := rest_take q fs k _ hsx
      have hxl : x.length ≤ 112 := (HFN.out _ (List.mem_of_getElem? hsx)).2
      have hsp := starts_ok x q wr (by omega) (by omega)
      dsimp only at htk e1 e2 s1 hz
      by_cases hp : q.isPrefixOf x = true
      · rw [if_pos hp, List.append_nil] at htk
        have HRR : Hid (∃ vs, Rowz (fun b => b < w.heap.size ∨ (B ≤ b ∧ b < w1.heap.size)) w2 wr (.slice fo m fc) (rest q (fs.take (k + 1))) vs) := hide (by rw [htk]; exact ⟨vs, hR⟩)
        rw [hp] at hsp
        clear hR htk hsx s1 e2 HR hz hxl hp
        go_wp2_with (go_at_call 12; refine hsp.mono ?_; rintro e w' ⟨rfl, hww⟩; obtain rfl := hww.symm; clear hsp)
        go_roundw
        case rel => exact ⟨k + 1, m, fo, fc, by omega, by go_num, rfl, by omega, HRR⟩
        case measure => simp [intOf]; omega
      · rw [if_neg hp] at htk
        have hpf : q.isPrefixOf x = false := Bool.eq_false_iff.2 hp
        rw [hpf] at hsp
        obtain ⟨ga, gc, w5, hap, H5⟩ := hR.app (x := x) (d := d) (bo := bo1) (bc := bc1) (by omega) s1 hz
        rw [← htk] at H5
        clear hR htk hsx s1 HR hz hxl hp hpf
        generalize d.length = z at e2 hap
        go_wp2_with (first
          | (go_at_call 12; refine hsp.mono ?_; rintro e w' ⟨rfl, hww⟩; obtain rfl := hww.symm; clear hsp)
          | (at_builtin; refine wpList_app_run rfl _ _ 36 36 rfl _ _ rfl rfl _ _ hap ?_))
        go_roundw
        case rel => exact ⟨k + 1, m + 1, _, _, by omega, by go_num, rfl, by omega, H5⟩
        case measure => simp [intOf]; omega
    · have hkn : k = zw := by omega
      subst hkn
      have htk : fs.take k = fs := List.take_of_length_le (by rw [HZW.out]; exact Nat.le_refl _)
      rw [htk] at HR
      clear htk
      have HRZ : Hid (Fisz wr (More (fun b => b < w.heap.size ∨ (B ≤ b ∧ b < w1.heap.size)) w2 wr) fo (rest q fs) ∧ m = (rest q fs).length ∧ Kept [] w2 wr) := hide (by
        obtain ⟨vs, hR⟩ := HR.out
        exact ⟨hR.fisz.1, hR.fisz.2, hR.rf.kept⟩)
      have HFW : Hid (Fisz wr (More (fun b => b < w.heap.size ∨ (B ≤ b ∧ b < w1.heap.size)) w2 wr) vo fs) := hide ((HF2.out.kept HRZ.out.2.2).wide (fun b hb => .inl hb))
      have HA3 := hide (HA2.out.more HRZ.out.2.2)
      have HKO : Hid (Kept [] w wr) := hide ((HGT.out.kept.trans HK2.out (by simp)).trans HRZ.out.2.2 (by simp))
      have HXO : Hid (∀ b, b < w.heap.size → More (fun b => b < w.heap.size ∨ (B ≤ b ∧ b < w1.heap.size)) w2 wr b) := hide (fun b hb => .inl (.inl hb))
      clear HR HA2 HF2 HK2 HGT
      generalize More (fun b => b < w.heap.size ∨ (B ≤ b ∧ b < w1.heap.size)) w2 wr = Y at *
      generalize wr = w3 at *
      by_cases hof : 0 < off
      · have hpc := plan_ax HA3.out off 0 0 ⟨HO.out, by decide, by decide⟩
        go_upto_region 12 with (go_at_call 13; refine hpc.mono ?_; rintro e w4 ⟨rfl, hA4⟩; have HA4 := hide hA4; clear hpc hA4)
        have HS2 : Hid (AllSafe (S.setPlan off 0 0) ∧ (S.setPlan off 0 0).on = true ∧ (S.setPlan off 0 0).strokes = 0 ∧ (S.setPlan off 0 0).files = fs) := hide ⟨HS.out.1.plan _ _ _, by simp [Ds.setPlan, HS.out.2.1], by simp [Ds.setPlan, HS.out.2.1, HS.out.2.2], by rw [← HFS.out]; simp [Ds.setPlan, HS.out.2.1, Ds.files]⟩
        clear HS HFS HWF HA3
        generalize S.setPlan off 0 0 = S2 at HA4 HS2
        have hcl := clean_new HA4.out (by omega) HS2.out.2.1 q hm
        have HAS : Hid (∀ E D, CleanR S2 q E D → AskC fs (D.crash ps).files q E D.strokes) := hide (fun E D h => by have := clean_asks HS2.out.1 HS2.out.2.1 HS2.out.2.2.1 h ps; rwa [HS2.out.2.2.2] at this)
        go_upto_region 13 with (go_at_call 14; refine hcl.mono ?_; rintro e w5 ⟨ve, w5', E, D, rfl, hev, hcr, hA5, hk5, hne⟩; have HEV := hide hev; have HAK := hide (HAS.out E D hcr); have HA5 := hide hA5; have HK5 := hide hk5; have HNE := hide hne; clear hcl hev hcr hA5 hk5 hne)
        have hst := strokes_ax (HA5.out.kept HK5.out)
        have HAM := hide (HA5.out.more HK5.out)
        have q5 := (HA5.out.kept HK5.out).old
        have HF5 : Hid (Fisz w5 Y vo fs ∧ Fisz w5 Y fo (rest q fs)) := hide ⟨HFW.out.keep q5 (fun b hb hn => hn hb), HRZ.out.1.keep q5 (fun b hb hn => hn hb)⟩
        have hK5o : Kept [] w w5 := kept_of_keep6 HKO.out q5 HXO.out
        have HK5O := hide hK5o
        have hcr := crash_ax HAM.out (Kept.refl [] w5) (by omega) (c := pc) HP.out.1 (HP.out.2.1.kept (Keep.ofNone (F := fun _ => False) hK5o) (fun _ _ _ h => h)) HP.out.2.2.1 hpn (fun h a e => .inr (.inl (HXO.out _ (HP.out.2.2.2 h a e))))
        clear hK5o q5 HAS
        go_upto_region 15 with (first
          | (go_at_call 15; refine hst.mono ?_; rintro e w' ⟨rfl, hww⟩; obtain rfl := hww.symm; clear hst)
          | (go_at_call 16; refine hcr.mono ?_; rintro e w6 ⟨rfl, hA6⟩; have HA6 := hide hA6; clear hcr hA6))
        have HE6 : Hid (ErrV w6 ve opClean q E) := hide (HEV.out.keep HA6.out.old (fun t a e hn => hn (.inr ⟨HNE.out t a e, HEV.out.lt e⟩)))
        have HF6 : Hid (Fisz w6 Y vo fs ∧ Fisz w6 Y fo (rest q fs)) := hide ⟨HF5.out.1.keep HA6.out.old (fun b hb hn => hn (.inl hb)), HF5.out.2.keep HA6.out.old (fun b hb hn => hn (.inl hb))⟩
        have HK6O : Hid (Kept [] w w6) := hide (kept_of_keep6 HK5O.out HA6.out.old (fun b hb => .inl (HXO.out b hb)))
        have hfl := files_ax HA6.out (by omega)
        have HSM2 : Hid ((D.crash ps).files.length ≤ 4194304) := hide (by
          have := files_small HA6.out.wf HA6.out.bd
          omega)
        generalize (D.crash ps).files = now at hfl HSM2 HAK
        generalize D.strokes = stk at *
        clear HF5 HA5 HK5 HAM HEV HNE HA6 HK5O HA4 HS2
        go_upto_region 16 with (go_at_call 17; refine hfl.mono ?_; rintro e w7 ⟨v2, vs2, rfl, hF7, hk7⟩; obtain ⟨no, nc, rfl, _⟩ := own_shape hF7.row; have HN7 := hide (Fis.of hF7).1; have HK7 := hide hk7; clear hfl hF7 hk7)
        obtain ⟨zr, hzr⟩ : ∃ zr, (rest q fs).length = zr := ⟨_, rfl⟩
        obtain ⟨zn, hzn⟩ : ∃ zn, now.length = zn := ⟨_, rfl⟩
        have hrl : zr ≤ k := by rw [← hzr, ← HZW.out]; exact List.length_filter_le _ _
        have hmz : m = zr := by rw [← hzr]; exact HRZ.out.2.1
        subst hmz
        have HZR := hide hzr
        have HZN := hide hzn
        have hznb : zn ≤ 4194304 := by rw [← hzn]; exact HSM2.out
        rw [hzn]
        have HF7 : Hid (Fis w7 vo fs ∧ Fis w7 fo (rest q fs) ∧ Fis w7 no now ∧ ErrV w7 ve opClean q E ∧ Kept [] w w7) := hide ⟨(HF6.out.1.kept HK7.out).fis, (HF6.out.2.kept HK7.out).fis, HN7.out, HE6.out.kept HK7.out, HK6O.out.trans HK7.out (by simp)⟩
        clear HF6 HK7 HN7 HE6 HK6O hzr hzn HSM2
        obtain ⟨gz, hgz⟩ : ∃ gz : Nat, gz + m = k := ⟨k - m, by omega⟩
        have wsub : IntKind.i64.wrap ((k : Int) - (m : Int)) = (gz : Int) := by rw [IntKind.wrap_i64]; omega
        have HFIN : Hid (∀ w', Kept [] w7 w' → Below w.heap.size w w') := hide (fun w' hk => (HF7.out.2.2.2.2.trans hk (by simp)).below (Nat.le_refl _) (by simp))
        rcases HAK.out.all with rfl | rfl
        · have hve : ve = .nilIface := by
            rcases HF7.out.2.2.2.1 with ⟨_, h⟩ | ⟨h, _⟩
            · exact h
            · exact absurd rfl h
          subst hve
          have HFL : Hid (now = rest q fs → zn = m → Calls Tryz.prog 18 #[.slice no zn nc, .slice fo m fc] w7 fun e w' => e = .returned (.bool true) ∧ ∃ k, w' = w7.drewN k) := hide (fun h1 h2 => by
            subst h2
            have h3 := HF7.out.2.2.1
            rw [h1] at h3
            exact files6_yes no fo zn nc fc (rest q fs) w7 HZR.out (by omega) (fun f hf => by have := HSM.out.2 f (List.mem_filter.1 hf).1; omega) h3 HF7.out.2.1)
          by_cases hg0 : gz = 0
          · subst hg0
            obtain ⟨a1, a2⟩ := HAK.out.none rfl (by rw [HZR.out, HZW.out]; omega)
            have hcal := HFL.out a1 (by rw [← HZN.out, a1, HZR.out])
            subst a2
            clear a1 HFL HAK
            go_wp2_with (go_at_call 18; refine hcal.mono ?_; rintro e w' ⟨rfl, kk, hk'⟩; have HKE : Hid (Kept [] w7 w') := hide (by rw [hk']; exact (Kept.refl [] w7).drewN _); clear hcal hk')
            go_ret
            exact ⟨rfl, HFIN.out _ HKE.out⟩
          · obtain ⟨a1, a2⟩ := HAK.out.done rfl (by rw [HZR.out, HZW.out]; omega)
            rw [HZR.out, HZW.out] at a2
            have hcal := HFL.out a1 (by rw [← HZN.out, a1, HZR.out])
            have hgb : ((gz : Int) == 0) = false := by simp; omega
            have wad : IntKind.i64.wrap ((gz : Int) + 1) = (stk : Int) := by rw [IntKind.wrap_i64]; omega
            clear a1 HFL HAK
            go_wp2_with (go_at_call 18; refine hcal.mono ?_; rintro e w' ⟨rfl, kk, hk'⟩; have HKE : Hid (Kept [] w7 w') := hide (by rw [hk']; exact (Kept.refl [] w7).drewN _); clear hcal hk')
            go_ret
            exact ⟨rfl, HFIN.out _ HKE.out⟩
        · obtain ⟨a1, a2, ns, a3⟩ := HAK.out.cut rfl
          rw [HZR.out, HZW.out] at a1
          have hgb : ((gz : Int) == 0) = false := by simp; omega
          have hvi : ∃ eb, ve = .iface 120 (.pointer (some ⟨eb, 0, none⟩)) := by
            rcases HF7.out.2.2.2.1 with ⟨h, _⟩ | ⟨_, eb, h, _⟩
            · exact absurd h (by decide)
            · exact ⟨eb, h⟩
          have hcd := code_any ve opClean q 50 w7 (HG.out.kept HF7.out.2.2.2.2 (by simp)) HF7.out.2.2.2.1
          have HA2 := hide a2
          have HSUB : Hid (∀ f ∈ now, f ∈ fs) := hide (fun f hf => by rw [a3] at hf; exact (List.mem_filter.1 hf).1)
          obtain ⟨eb, rfl⟩ := hvi
          have hznk : zn ≤ k := by rw [← HZN.out, a3, ← HZW.out]; exact List.length_filter_le _ _
          clear a2 a3 HAK
          go_upto_region 23 with (go_at_call 19; refine hcd.mono ?_; rintro e w8 ⟨rfl, hk8⟩; have HK8 := hide hk8; clear hcd hk8)
          have HF8 : Hid (Fis w8 vo fs ∧ Fis w8 fo (rest q fs) ∧ Fis w8 no now) := hide ⟨HF7.out.1.kept HK8.out, HF7.out.2.1.kept HK8.out, HF7.out.2.2.1.kept HK8.out⟩
          clear HF7
          go_wp2
          go_loopw [17, 18] (fun r i wr => ∃ (k2 m2 : Nat) (go : Option Addr) (gc : Nat), k2 ≤ zn ∧ i = .int .i64 k2 ∧ r = .slice go m2 gc ∧ m2 ≤ k2 ∧ Hid (∃ vs, Rowf w8 wr (.slice go m2 gc) (rest q (now.take k2)) vs)) (fun r i wr => zn - (intOf i).toNat)
          case atStart => exact ⟨0, 0, none, 0, Nat.zero_le _, rfl, rfl, Nat.le_refl _, hide ⟨[], Rowf.start w8⟩⟩
          case round =>
            obtain ⟨k2, m2, go, gc, hk2, rfl, rfl, hmk2, HR⟩ := hrel
            by_cases hlt2 : k2 < zn
            · obtain ⟨b1, rfl, ⟨x, d⟩, hsx, e1, bo1, bc1, e2, s1⟩ := HF8.out.2.2 k2 (by rw [HZN.out]; exact hlt2)
              obtain ⟨vs, hR⟩ := HR.out
              have hmem := HSUB.out _ (List.mem_of_getElem? hsx)
              obtain ⟨hfd, hxl⟩ := HFN.out _ hmem
              have hdl := HSM.out.2 _ hmem
              have htk := rest_take q now k2 _ hsx
              dsimp only at htk e1 e2 s1 hfd hxl hdl
              have hun := under_ok vo k vc fs x wr HZW.out (by omega) (HF8.out.1.kept hR.kept)
              have HUN : Hid (∀ v2 b2, Und wr fs x v2 b2 → ∃ bo2 bc2, v2 = .slice bo2 d.length bc2 ∧ b2 = true ∧ Sl wr bo2 d) := hide (fun v2 b2 h => by
                rcases h with ⟨h, _⟩ | ⟨f2, bo2, bc2, h0, _, h1, h2, h3⟩
                · rw [hfd] at h; cases h
                · rw [hfd] at h0; cases h0; exact ⟨bo2, bc2, h1, h3, h2⟩)
              replace e1 := hR.kept.cellOf e1 (by simp)
              replace e2 := hR.kept.cellOf e2 (by simp)
              have HRK := hide hR
              have HS1 := hide s1
              have hd9 : d.length ≤ 4611686018427387904 := by omega
              go_upto_region 28 with (go_at_call 20; refine hun.mono ?_; rintro e x1 ⟨v2, b2, rfl, hu, kk, hx1⟩; obtain ⟨bo2, bc2, rfl, rfl, hs2⟩ := HUN.out _ _ hu; have HX1 : Hid (Kept [] wr x1) := hide (by rw [hx1]; exact (Kept.refl [] wr).drewN _); have HS2' := hide hs2; clear hun hu hx1 hs2)
              have c1 := HX1.out.cellOf e1 (by simp)
              have c2 := HX1.out.cellOf e2 (by simp)
              have hsm := same_yes bo2 bo1 d.length bc2 bc1 d x1 rfl hd9 (HS2'.out.kept HX1.out (by simp)) ((HS1.out.kept HRK.out.kept (by simp)).kept HX1.out (by simp))
              clear e1 e2 HUN
              generalize hzd : d.length = zd at c2 hsm
              go_upto_region 30 with (go_at_call 21; refine hsm.mono ?_; rintro e x2 ⟨rfl, kk, hx2⟩; have HX2 : Hid (Kept [] x1 x2) := hide (by rw [hx2]; exact (Kept.refl [] x1).drewN _); clear hsm hx2)
              have f1 := HX2.out.cellOf c1 (by simp)
              have f2 := HX2.out.cellOf c2 (by simp)
              have hsp := starts_ok x q x2 (by omega) (by omega)
              have hR2 := HRK.out.mono (HX1.out.trans HX2.out (by simp))
              clear c1 c2 HX1 HX2 HR HRK HS2'
              by_cases hp : q.isPrefixOf x = true
              · rw [if_pos hp, List.append_nil] at htk
                have HRR : Hid (∃ vs, Rowf w8 x2 (.slice go m2 gc) (rest q (now.take (k2 + 1))) vs) := hide (by rw [htk]; exact ⟨vs, hR2⟩)
                rw [hp] at hsp
                clear hR2 htk hsx hp hmem hfd hR s1 hdl
                go_wp2_with (go_at_call 12; refine hsp.mono ?_; rintro e w' ⟨rfl, hww⟩; obtain rfl := hww.symm; clear hsp)
                go_roundw
                case rel => exact ⟨k2 + 1, m2, go, gc, by omega, by go_num, rfl, by omega, HRR⟩
                case measure => simp [intOf]; omega
              · rw [if_neg hp] at htk
                have hpf : q.isPrefixOf x = false := Bool.eq_false_iff.2 hp
                rw [hpf] at hsp
                obtain ⟨ga, gc2, w9, hap, H9⟩ := hR2.app (x := x) (d := d) (bo := bo1) (bc := bc1) (by omega) HS1.out
                rw [← htk] at H9
                rw [hzd] at hap
                clear hR2 htk hsx hp hpf hmem hfd hR s1 hdl
                go_wp2_with (first
                  | (go_at_call 12; refine hsp.mono ?_; rintro e w' ⟨rfl, hww⟩; obtain rfl := hww.symm; clear hsp)
                  | (at_builtin; refine wpList_app_run rfl _ _ 36 36 rfl _ _ rfl rfl _ _ hap ?_))
                go_roundw
                case rel => exact ⟨k2 + 1, m2 + 1, _, _, by omega, by go_num, rfl, by omega, H9⟩
                case measure => simp [intOf]; omega
            · have hkn2 : k2 = zn := by omega
              subst hkn2
              have htk : now.take k2 = now := List.take_of_length_le (by rw [HZN.out]; exact Nat.le_refl _)
              rw [htk, HA2.out] at HR
              have HFF : Hid (Kept [] w8 wr ∧ m2 = m ∧ Calls Tryz.prog 18 #[.slice go m gc, .slice fo m fc] wr fun e w' => e = .returned (.bool true) ∧ ∃ k, w' = wr.drewN k) := hide (by
                obtain ⟨vs, hR⟩ := HR.out
                obtain ⟨g1, g2⟩ := hR.fis (Kept.refl [] wr)
                refine ⟨hR.kept, by rw [g2, HZR.out], ?_⟩
                exact files6_yes go fo m gc fc (rest q fs) wr HZR.out (by omega) (fun f hf => by have := HSM.out.2 f (List.mem_filter.1 hf).1; omega) g1 (HF8.out.2.1.kept hR.kept))
              obtain ⟨hkw, hm2, hcal⟩ := HFF.out
              subst hm2
              have HKW := hide hkw
              clear HFF HR hkw htk
              go_wp2_with (go_at_call 18; refine hcal.mono ?_; rintro e w' ⟨rfl, kk, hk'⟩; have HKE : Hid (Kept [] wr w') := hide (by rw [hk']; exact (Kept.refl [] wr).drewN _); clear hcal hk')
              go_ret
              exact ⟨rfl, HFIN.out _ ((HK8.out.trans HKW.out (by simp)).trans HKE.out (by simp))⟩
      · have HA4 := HA3
        have HS2 : Hid (AllSafe S ∧ S.on = true ∧ S.strokes = 0 ∧ S.files = fs) := hide ⟨HS.out.1, HS.out.2.1, HS.out.2.2, HFS.out⟩
        clear HS HFS HWF HA3
        go_upto_region 12 with (fail)
        have hcl := clean_new HA4.out (by omega) HS2.out.2.1 q hm
        have HAS : Hid (∀ E D, CleanR S q E D → AskC fs (D.crash ps).files q E D.strokes) := hide (fun E D h => by have := clean_asks HS2.out.1 HS2.out.2.1 HS2.out.2.2.1 h ps; rwa [HS2.out.2.2.2] at this)
        go_upto_region 13 with (go_at_call 14; refine hcl.mono ?_; rintro e w5 ⟨ve, w5', E, D, rfl, hev, hcr, hA5, hk5, hne⟩; have HEV := hide hev; have HAK := hide (HAS.out E D hcr); have HA5 := hide hA5; have HK5 := hide hk5; have HNE := hide hne; clear hcl hev hcr hA5 hk5 hne)
        have hst := strokes_ax (HA5.out.kept HK5.out)
        have HAM := hide (HA5.out.more HK5.out)
        have q5 := (HA5.out.kept HK5.out).old
        have HF5 : Hid (Fisz w5 Y vo fs ∧ Fisz w5 Y fo (rest q fs)) := hide ⟨HFW.out.keep q5 (fun b hb hn => hn hb), HRZ.out.1.keep q5 (fun b hb hn => hn hb)⟩
        have hK5o : Kept [] w w5 := kept_of_keep6 HKO.out q5 HXO.out
        have HK5O := hide hK5o
        have hcr := crash_ax HAM.out (Kept.refl [] w5) (by omega) (c := pc) HP.out.1 (HP.out.2.1.kept (Keep.ofNone (F := fun _ => False) hK5o) (fun _ _ _ h => h)) HP.out.2.2.1 hpn (fun h a e => .inr (.inl (HXO.out _ (HP.out.2.2.2 h a e))))
        clear hK5o q5 HAS
        go_upto_region 15 with (first
          | (go_at_call 15; refine hst.mono ?_; rintro e w' ⟨rfl, hww⟩; obtain rfl := hww.symm; clear hst)
          | (go_at_call 16; refine hcr.mono ?_; rintro e w6 ⟨rfl, hA6⟩; have HA6 := hide hA6; clear hcr hA6))
        have HE6 : Hid (ErrV w6 ve opClean q E) := hide (HEV.out.keep HA6.out.old (fun t a e hn => hn (.inr ⟨HNE.out t a e, HEV.out.lt e⟩)))
        have HF6 : Hid (Fisz w6 Y vo fs ∧ Fisz w6 Y fo (rest q fs)) := hide ⟨HF5.out.1.keep HA6.out.old (fun b hb hn => hn (.inl hb)), HF5.out.2.keep HA6.out.old (fun b hb hn => hn (.inl hb))⟩
        have HK6O : Hid (Kept [] w w6) := hide (kept_of_keep6 HK5O.out HA6.out.old (fun b hb => .inl (HXO.out b hb)))
        have hfl := files_ax HA6.out (by omega)
        have HSM2 : Hid ((D.crash ps).files.length ≤ 4194304) := hide (by
          have := files_small HA6.out.wf HA6.out.bd
          omega)
        generalize (D.crash ps).files = now at hfl HSM2 HAK
        generalize D.strokes = stk at *
        clear HF5 HA5 HK5 HAM HEV HNE HA6 HK5O HA4 HS2
        go_upto_region 16 with (go_at_call 17; refine hfl.mono ?_; rintro e w7 ⟨v2, vs2, rfl, hF7, hk7⟩; obtain ⟨no, nc, rfl, _⟩ := own_shape hF7.row; have HN7 := hide (Fis.of hF7).1; have HK7 := hide hk7; clear hfl hF7 hk7)
        obtain ⟨zr, hzr⟩ : ∃ zr, (rest q fs).length = zr := ⟨_, rfl⟩
        obtain ⟨zn, hzn⟩ : ∃ zn, now.length = zn := ⟨_, rfl⟩
        have hrl : zr ≤ k := by rw [← hzr, ← HZW.out]; exact List.length_filter_le _ _
        have hmz : m = zr := by rw [← hzr]; exact HRZ.out.2.1
        subst hmz
        have HZR := hide hzr
        have HZN := hide hzn
        have hznb : zn ≤ 4194304 := by rw [← hzn]; exact HSM2.out
        rw [hzn]
        have HF7 : Hid (Fis w7 vo fs ∧ Fis w7 fo (rest q fs) ∧ Fis w7 no now ∧ ErrV w7 ve opClean q E ∧ Kept [] w w7) := hide ⟨(HF6.out.1.kept HK7.out).fis, (HF6.out.2.kept HK7.out).fis, HN7.out, HE6.out.kept HK7.out, HK6O.out.trans HK7.out (by simp)⟩
        clear HF6 HK7 HN7 HE6 HK6O hzr hzn HSM2
        obtain ⟨gz, hgz⟩ : ∃ gz : Nat, gz + m = k := ⟨k - m, by omega⟩
        have wsub : IntKind.i64.wrap ((k : Int) - (m : Int)) = (gz : Int) := by rw [IntKind.wrap_i64]; omega
        have HFIN : Hid (∀ w', Kept [] w7 w' → Below w.heap.size w w') := hide (fun w' hk => (HF7.out.2.2.2.2.trans hk (by simp)).below (Nat.le_refl _) (by simp))
        rcases HAK.out.all with rfl | rfl
        · have hve : ve = .nilIface := by
            rcases HF7.out.2.2.2.1 with ⟨_, h⟩ | ⟨h, _⟩
            · exact h
            · exact absurd rfl h
          subst hve
          have HFL : Hid (now = rest q fs → zn = m → Calls Tryz.prog 18 #[.slice no zn nc, .slice fo m fc] w7 fun e w' => e = .returned (.bool true) ∧ ∃ k, w' = w7.drewN k) := hide (fun h1 h2 => by
            subst h2
            have h3 := HF7.out.2.2.1
            rw [h1] at h3
            exact files6_yes no fo zn nc fc (rest q fs) w7 HZR.out (by omega) (fun f hf => by have := HSM.out.2 f (List.mem_filter.1 hf).1; omega) h3 HF7.out.2.1)
          by_cases hg0 : gz = 0
          · subst hg0
            obtain ⟨a1, a2⟩ := HAK.out.none rfl (by rw [HZR.out, HZW.out]; omega)
            have hcal := HFL.out a1 (by rw [← HZN.out, a1, HZR.out])
            subst a2
            clear a1 HFL HAK
            go_wp2_with (go_at_call 18; refine hcal.mono ?_; rintro e w' ⟨rfl, kk, hk'⟩; have HKE : Hid (Kept [] w7 w') := hide (by rw [hk']; exact (Kept.refl [] w7).drewN _); clear hcal hk')
            go_ret
            exact ⟨rfl, HFIN.out _ HKE.out⟩
          · obtain ⟨a1, a2⟩ := HAK.out.done rfl (by rw [HZR.out, HZW.out]; omega)
            rw [HZR.out, HZW.out] at a2
            have hcal := HFL.out a1 (by rw [← HZN.out, a1, HZR.out])
            have hgb : ((gz : Int) == 0) = false := by simp; omega
            have wad : IntKind.i64.wrap ((gz : Int) + 1) = (stk : Int) := by rw [IntKind.wrap_i64]; omega
            clear a1 HFL HAK
            go_wp2_with (go_at_call 18; refine hcal.mono ?_; rintro e w' ⟨rfl, kk, hk'⟩; have HKE : Hid (Kept [] w7 w') := hide (by rw [hk']; exact (Kept.refl [] w7).drewN _); clear hcal hk')
            go_ret
            exact ⟨rfl, HFIN.out _ HKE.out⟩
        · obtain ⟨a1, a2, ns, a3⟩ := HAK.out.cut rfl
          rw [HZR.out, HZW.out] at a1
          have hgb : ((gz : Int) == 0) = false := by simp; omega
          have hvi : ∃ eb, ve = .iface 120 (.pointer (some ⟨eb, 0, none⟩)) := by
            rcases HF7.out.2.2.2.1 with ⟨h, _⟩ | ⟨_, eb, h, _⟩
            · exact absurd h (by decide)
            · exact ⟨eb, h⟩
          have hcd := code_any ve opClean q 50 w7 (HG.out.kept HF7.out.2.2.2.2 (by simp)) HF7.out.2.2.2.1
          have HA2 := hide a2
          have HSUB : Hid (∀ f ∈ now, f ∈ fs) := hide (fun f hf => by rw [a3] at hf; exact (List.mem_filter.1 hf).1)
          obtain ⟨eb, rfl⟩ := hvi
          have hznk : zn ≤ k := by rw [← HZN.out, a3, ← HZW.out]; exact List.length_filter_le _ _
          clear a2 a3 HAK
          go_upto_region 23 with (go_at_call 19; refine hcd.mono ?_; rintro e w8 ⟨rfl, hk8⟩; have HK8 := hide hk8; clear hcd hk8)
          have HF8 : Hid (Fis w8 vo fs ∧ Fis w8 fo (rest q fs) ∧ Fis w8 no now) := hide ⟨HF7.out.1.kept HK8.out, HF7.out.2.1.kept HK8.out, HF7.out.2.2.1.kept HK8.out⟩
          clear HF7
          go_wp2
          go_loopw [17, 18] (fun r i wr => ∃ (k2 m2 : Nat) (go : Option Addr) (gc : Nat), k2 ≤ zn ∧ i = .int .i64 k2 ∧ r = .slice go m2 gc ∧ m2 ≤ k2 ∧ Hid (∃ vs, Rowf w8 wr (.slice go m2 gc) (rest q (now.take k2)) vs)) (fun r i wr => zn - (intOf i).toNat)
          case atStart => exact ⟨0, 0, none, 0, Nat.zero_le _, rfl, rfl, Nat.le_refl _, hide ⟨[], Rowf.start w8⟩⟩
          case round =>
            obtain ⟨k2, m2, go, gc, hk2, rfl, rfl, hmk2, HR⟩ := hrel
            by_cases hlt2 : k2 < zn
            · obtain ⟨b1, rfl, ⟨x, d⟩, hsx, e1, bo1, bc1, e2, s1⟩ := HF8.out.2.2 k2 (by rw [HZN.out]; exact hlt2)
              obtain ⟨vs, hR⟩ := HR.out
              have hmem := HSUB.out _ (List.mem_of_getElem? hsx)
              obtain ⟨hfd, hxl⟩ := HFN.out _ hmem
              have hdl := HSM.out.2 _ hmem
              have htk := rest_take q now k2 _ hsx
              dsimp only at htk e1 e2 s1 hfd hxl hdl
              have hun := under_ok vo k vc fs x wr HZW.out (by omega) (HF8.out.1.kept hR.kept)
              have HUN : Hid (∀ v2 b2, Und wr fs x v2 b2 → ∃ bo2 bc2, v2 = .slice bo2 d.length bc2 ∧ b2 = true ∧ Sl wr bo2 d) := hide (fun v2 b2 h => by
                rcases h with ⟨h, _⟩ | ⟨f2, bo2, bc2, h0, _, h1, h2, h3⟩
                · rw [hfd] at h; cases h
                · rw [hfd] at h0; cases h0; exact ⟨bo2, bc2, h1, h3, h2⟩)
              replace e1 := hR.kept.cellOf e1 (by simp)
              replace e2 := hR.kept.cellOf e2 (by simp)
              have HRK := hide hR
              have HS1 := hide s1
              have hd9 : d.length ≤ 4611686018427387904 := by omega
              go_upto_region 28 with (go_at_call 20; refine hun.mono ?_; rintro e x1 ⟨v2, b2, rfl, hu, kk, hx1⟩; obtain ⟨bo2, bc2, rfl, rfl, hs2⟩ := HUN.out _ _ hu; have HX1 : Hid (Kept [] wr x1) := hide (by rw [hx1]; exact (Kept.refl [] wr).drewN _); have HS2' := hide hs2; clear hun hu hx1 hs2)
              have c1 := HX1.out.cellOf e1 (by simp)
              have c2 := HX1.out.cellOf e2 (by simp)
              have hsm := same_yes bo2 bo1 d.length bc2 bc1 d x1 rfl hd9 (HS2'.out.kept HX1.out (by simp)) ((HS1.out.kept HRK.out.kept (by simp)).kept HX1.out (by simp))
              clear e1 e2 HUN
              generalize hzd : d.length = zd at c2 hsm
              go_upto_region 30 with (go_at_call 21; refine hsm.mono ?_; rintro e x2 ⟨rfl, kk, hx2⟩; have HX2 : Hid (Kept [] x1 x2) := hide (by rw [hx2]; exact (Kept.refl [] x1).drewN _); clear hsm hx2)
              have f1 := HX2.out.cellOf c1 (by simp)
              have f2 := HX2.out.cellOf c2 (by simp)
              have hsp := starts_ok x q x2 (by omega) (by omega)
              have hR2 := HRK.out.mono (HX1.out.trans HX2.out (by simp))
              clear c1 c2 HX1 HX2 HR HRK HS2'
              by_cases hp : q.isPrefixOf x = true
              · rw [if_pos hp, List.append_nil] at htk
                have HRR : Hid (∃ vs, Rowf w8 x2 (.slice go m2 gc) (rest q (now.take (k2 + 1))) vs) := hide (by rw [htk]; exact ⟨vs, hR2⟩)
                rw [hp] at hsp
                clear hR2 htk hsx hp hmem hfd hR s1 hdl
                go_wp2_with (go_at_call 12; refine hsp.mono ?_; rintro e w' ⟨rfl, hww⟩; obtain rfl := hww.symm; clear hsp)
                go_roundw
                case rel => exact ⟨k2 + 1, m2, go, gc, by omega, by go_num, rfl, by omega, HRR⟩
                case measure => simp [intOf]; omega
              · rw [if_neg hp] at htk
                have hpf : q.isPrefixOf x = false := Bool.eq_false_iff.2 hp
                rw [hpf] at hsp
                obtain ⟨ga, gc2, w9, hap, H9⟩ := hR2.app (x := x) (d := d) (bo := bo1) (bc := bc1) (by omega) HS1.out
                rw [← htk] at H9
                rw [hzd] at hap
                clear hR2 htk hsx hp hpf hmem hfd hR s1 hdl
                go_wp2_with (first
                  | (go_at_call 12; refine hsp.mono ?_; rintro e w' ⟨rfl, hww⟩; obtain rfl := hww.symm; clear hsp)
                  | (at_builtin; refine wpList_app_run rfl _ _ 36 36 rfl _ _ rfl rfl _ _ hap ?_))
                go_roundw
                case rel => exact ⟨k2 + 1, m2 + 1, _, _, by omega, by go_num, rfl, by omega, H9⟩
                case measure => simp [intOf]; omega
            · have hkn2 : k2 = zn := by omega
              subst hkn2
              have htk : now.take k2 = now := List.take_of_length_le (by rw [HZN.out]; exact Nat.le_refl _)
              rw [htk, HA2.out] at HR
              have HFF : Hid (Kept [] w8 wr ∧ m2 = m ∧ Calls Tryz.prog 18 #[.slice go m gc, .slice fo m fc] wr fun e w' => e = .returned (.bool true) ∧ ∃ k, w' = wr.drewN k) := hide (by
                obtain ⟨vs, hR⟩ := HR.out
                obtain ⟨g1, g2⟩ := hR.fis (Kept.refl [] wr)
                refine ⟨hR.kept, by rw [g2, HZR.out], ?_⟩
                exact files6_yes go fo m gc fc (rest q fs) wr HZR.out (by omega) (fun f hf => by have := HSM.out.2 f (List.mem_filter.1 hf).1; omega) g1 (HF8.out.2.1.kept hR.kept))
              obtain ⟨hkw, hm2, hcal⟩ := HFF.out
              subst hm2
              have HKW := hide hkw
              clear HFF HR hkw htk
              go_wp2_with (go_at_call 18; refine hcal.mono ?_; rintro e w' ⟨rfl, kk, hk'⟩; have HKE : Hid (Kept [] wr w') := hide (by rw [hk']; exact (Kept.refl [] wr).drewN _); clear hcal hk')
              go_ret
              exact ⟨rfl, HFIN.out _ ((HK8.out.trans HKW.out (by simp)).trans HKE.out (by simp))⟩
end Go.Proofs.YtoiogpcmndlpcaaGreatDoor
