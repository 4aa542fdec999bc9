import Derived.Test.YtmklodligplbaabProg
import Derived.Test.YtmklodligplbaabMemp
import Derived.ProofKit
import Derived.OpenShut
import Derived.Deep.Slices
import Derived.Lib.SmallJoins
import Derived.Deep.MidRow
import Derived.Test.YtmklodligplbaabD9vp
import Derived.Test.YtmklodligplbaabL18bp
namespace Go.Proofs.Ytmklodligplbaab
section
open Go.ChangeShapes Go.WideShapes Go.ChangeAt Go.RowKit Go.Deep Go.Joins
set_option linter.unusedVariables false
set_option linter.unusedSimpArgs false

/-- A row of bytes that came in. -/
structure InB (w : World) (ao : Option Addr) (n cap : Nat) (xs : List UInt8) : Prop where
  len : xs.length = n
  le : n ≤ cap
  max : cap ≤ 140737488351232
  sl : Sl w ao xs
  nil : ao = none → xs = [] ∧ cap = 0
  spot : n ≠ 0 → ∀ a, ao = some a → a.spot = none

theorem inb_of_ints {w : World} {a : Addr} {len cap : Nat} {zs : List Int} (hl : len ≤ cap) (hm : cap ≤ 140737488351232) (hz : zs.length = cap) (hcell : ∀ i, i < zs.length → w.cell? (a.add i) = some (.int .u8 (zs.getD i 0))) (hwz : ∀ n ∈ zs, (Lit.int .u8 n).wf = true) :
    ∃ xs, InB w (some a) len cap xs := by
  obtain ⟨b, off, spot⟩ := a
  have hsp : len ≠ 0 → spot = none := fun h => by simpa [Addr.add] using World.cell?_spot (hcell 0 (by omega))
  refine ⟨(zs.take len).map (fun z => UInt8.ofNat z.toNat), by simp; omega, hl, by omega, ?_, by simp, fun h a ha => by cases ha; exact hsp h⟩
  intro i hi
  have hi' : i < len := by simp at hi; omega
  have hc := hcell i (by omega)
  obtain rfl := hsp (by omega)
  refine ⟨b, off, rfl, ?_⟩
  rw [Addr.add_mid] at hc
  rw [hc]
  have hzi : i < zs.length := by omega
  have hb := bounds_u8 (hwz (zs.getD i 0) (by simp [List.getElem?_eq_getElem hzi]))
  have e : ((zs.take len).map (fun z => UInt8.ofNat z.toNat)).getD i 0 = UInt8.ofNat (zs.getD i 0).toNat := by
    simp [List.getElem?_eq_getElem hzi, hi']
  rw [e, UInt8.toNat_ofNat', Nat.mod_eq_of_lt (by omega)]
  congr 2
  omega

section
variable {H : Type} {enc : TypeId × Value → H} {w : World}

theorem open_bytes {fuel : Nat} {v : Value} {x : DataW H × List MemPlace} (h : DataW.trod enc Try.prog w 0 (fun _ => true) true fuel 22 [v] = some x) (hw : ∀ n ∈ x.1.weights Try.prog 22, n ≤ reachBytes) :
    ∃ ao n cap xs, v = .slice ao n cap ∧ InB w ao n cap xs := by
  rcases open_ints Try.underlying22 Try.underlying5 (by kernel_rfl) h with ⟨hcs, _⟩ | ⟨a, l, c, zs, hcs, _, hl, hm, hz, hx, hcell, hwz⟩
  · cases hcs
    exact ⟨none, 0, 0, [], rfl, rfl, Nat.le_refl _, by omega, Sl.nil _ _, fun _ => ⟨rfl, rfl⟩, by simp⟩
  · cases hcs
    have hb1 : Try.prog.bytesOf 5 = 1 := by kernel_rfl
    have hz' : zs.length = c := by simpa using hz
    have hsz : c ≤ 140737488351232 := by
      have := hw ((zs.take l).length + (zs.drop l).length) (by
        rw [hx]
        simp only [DataW.weights, Try.underlying22, hb1, Nat.mul_one, lits, List.length_map, List.mem_cons, true_or])
      have hr : reachBytes = 140737488351232 := rfl
      rw [hr] at this
      simp at this
      omega
    obtain ⟨xs, h⟩ := inb_of_ints hl hsz hz' hcell hwz
    exact ⟨some a, l, c, xs, rfl, h⟩

end
end

section
open Go.RowKit
open Dlt
set_option linter.unusedVariables false
set_option linter.unusedSimpArgs false

theorem InB.in8 {w : World} {ao : Option Addr} {n cap : Nat} {xs : List UInt8} (h : InB w ao n cap xs) : InB8 w ao n cap xs := ⟨h.len, h.le, by have := h.le; have := h.max; omega, h.sl, h.nil⟩
/-- A signature that a call told, opened. -/
theorem TellS.open {w w' : World} {e : Ending} {c : Int} {s : Sig} (h : TellS w w' e c s) : ∃ so sc, e = .returned (.tuple #[.agg (s.cells (.slice so s.blocks.length sc)).toArray, .int .i64 c]) ∧ SigIn w' s so s.blocks.length sc ∧ (s.blocks ≠ [] → ∀ a, so = some a → w.heap.size ≤ a.block) := by
  obtain ⟨v, rfl, ho⟩ := h
  obtain ⟨so, sc, rfl, hsc, hwk, hb, hm⟩ := OwnW.wks ho
  refine ⟨so, sc, rfl, ⟨rfl, hsc, hm, hwk⟩, fun _ a ha => ?_⟩
  obtain ⟨g, rfl, hg, _⟩ := hb a ha
  exact hg
theorem SigIn.row {w : World} {s : Sig} {so : Option Addr} {n sc O : Nat} {cs : Array Value} (h : SigIn w s so n sc) (hO : s.blocks ≠ [] → ∀ a, so = some a → a.block ≠ O) : SigIn (w.setRow O cs) s so n sc := ⟨h.len, h.le, h.max, h.at_.kept (kept_row w O cs) (fun hn a ha => by simpa using hO hn a ha)⟩
end

section
open Go.RowKit
open Dlt
set_option linter.unusedVariables false
set_option linter.unusedSimpArgs false

theorem weak_eq {wd : Int} {x y : List UInt8} : weak wd x = weak wd y ↔ Rol.sum x = Rol.sum y ∧ Sha.ident wd x = Sha.ident wd y := by
  constructor
  · intro h
    have h1 := congrArg Wk.sum h
    have h2 := congrArg Wk.id h
    refine ⟨?_, h2⟩
    have h3 : ((Rol.sum x : Nat) : Int) = (Rol.sum y : Nat) := h1
    omega
  · intro h
    refine Wk.ext' ?_ h.2
    show ((Rol.sum x : Nat) : Int) = (Rol.sum y : Nat)
    rw [h.1]

set_option maxHeartbeats 6400000 in
set_option maxRecDepth 100000 in
theorem clash_ok (width : Int) (Z : Nat) (bo : Option Addr) (bn bc : Nat) (base : List UInt8) (ao : Option Addr) (tn tc : Nat) (target : List UInt8) (w : World) (hb : InB8 w bo bn bc base) (ht : InB8 w ao tn tc target) (hz1 : 16 ≤ Z) (hz2 : Z ≤ 4096) (hbm : bn ≤ 131072) (htm : tn ≤ 131072) (hN : ¬ NoClash width Z base target) :
    Calls Try.prog 11 #[.int .i64 width, .slice bo bn bc, .int .i64 Z, .slice ao tn tc] w fun e w' => e = .returned (.bool true) ∧ Kept [] w w' := by
  have HN := hide hN
  have HB := hide hb
  have HT := hide ht
  clear hN hb ht
  have HIN : Hid (Kept [] w w ∧ ∀ q' i, q' < 0 → q' + Z ≤ tn → i < bn / Z → weak width ((target.drop q').take Z) = weak width (blk Z base i) → (target.drop q').take Z = blk Z base i) := ⟨Kept.refl _ _, fun q' i h => by omega⟩
  go_enter Try.func11, Try.ntmps11
  go_wp2
  go_loopw [9] (fun x wr => ∃ q : Nat, q ≤ tn ∧ x = .int .i64 q ∧ Hid (Kept [] w wr ∧ ∀ q' i, q' < q → q' + Z ≤ tn → i < bn / Z → weak width ((target.drop q').take Z) = weak width (blk Z base i) → (target.drop q').take Z = blk Z base i)) (fun x wr => tn - (intOf x).toNat)
  case atStart => exact ⟨0, by omega, rfl, HIN⟩
  case round =>
    clear HIN
    obtain ⟨q, hq, rfl, HP⟩ := hrel
    by_cases hlt : q + Z ≤ tn
    · have hle : (q : Int) + (Z : Int) ≤ (tn : Int) := by omega
      have hwa : IntKind.i64.wrap ((q : Int) + (Z : Int)) = (q : Int) + (Z : Int) := wrap64 (by omega) (by omega)
      have htl := HT.out.len
      have hne : target ≠ [] := by rintro rfl; simp at htl; omega
      obtain ⟨tb, toff, rfl, _, _⟩ := HT.out.sl.open hne
      have hcut : ∀ W, (Instr.slice 22 (.slice (some ⟨tb, toff, none⟩) tn tc) (some (.int .i64 q)) (some (.int .i64 ((q + Z : Nat) : Int))) none).run Try.prog W = .ok (.slice (some ⟨tb, toff + q, none⟩) Z (tc - q)) W := fun W => cut2 W tb toff tn tc q (q + Z) Z (by omega) (by omega) HT.out.le (by omega) (by have := HT.out.le; omega)
      rw [show ((q + Z : Nat) : Int) = (q : Int) + (Z : Int) by omega] at hcut
      obtain ⟨ws, hws⟩ : ∃ ws, (target.drop q).take Z = ws := ⟨_, rfl⟩
      have hwl : ws.length = Z := by rw [← hws, List.length_take, List.length_drop, htl]; omega
      have HSW : Hid (Sl w (some ⟨tb, toff + q, none⟩) ws) := by
        show Sl _ _ _
        rw [← hws]
        exact HT.out.sl.cut q Z (by rw [htl]; exact hlt)
      have HWS := hide hws
      have hsm := refsum_n (some ⟨tb, toff + q, none⟩) Z (tc - q) ws wr hwl (by omega) (HSW.out.kept HP.out.1 (by simp))
      obtain ⟨sw, hsw⟩ : ∃ sw : Nat, Rol.sum ws = sw := ⟨_, rfl⟩
      rw [hsw] at hsm
      have HSUM := hide hsw
      clear hsw hws hne htl
      go_upto_region 6 with (go_at_call 26; refine hsm.mono ?_; rintro r w' ⟨rfl, hw⟩; obtain rfl := hw.symm; clear hsm)
      clear hcut
      have HI2 : Hid (Kept [] w wr ∧ ∀ i, i < 0 → weak width ws = weak width (blk Z base i) → ws = blk Z base i) := ⟨HP.out.1, fun i h => by omega⟩
      go_wp2
      go_loopw [12] (fun x wr2 => ∃ i f : Nat, i ≤ bn / Z ∧ Hid (f = i * Z) ∧ f ≤ bn ∧ x = .int .i64 f ∧ Hid (Kept [] w wr2 ∧ ∀ i', i' < i → weak width ws = weak width (blk Z base i') → ws = blk Z base i')) (fun x wr2 => bn - (intOf x).toNat)
      case atStart => exact ⟨0, 0, Nat.zero_le _, (Nat.zero_mul Z).symm, by omega, rfl, HI2⟩
      case round =>
        clear HI2
        obtain ⟨i, f, hi, HF, hf, rfl, HQ⟩ := hrel
        by_cases hlt2 : i < bn / Z
        · have hkz : f + Z ≤ bn := by
            have h : (i + 1) * Z ≤ bn / Z * Z := Nat.mul_le_mul_right Z hlt2
            rw [Nat.add_mul, Nat.one_mul, ← HF.out] at h
            have := Nat.div_mul_le_self bn Z
            omega
          have hle2 : (f : Int) + (Z : Int) ≤ (bn : Int) := by omega
          have hwa2 : IntKind.i64.wrap ((f : Int) + (Z : Int)) = (f : Int) + (Z : Int) := wrap64 (by omega) (by omega)
          have hbl := HB.out.len
          have hne : base ≠ [] := by rintro rfl; simp at hbl; omega
          obtain ⟨bb, boff, rfl, _, _⟩ := HB.out.sl.open hne
          have hcut : ∀ W, (Instr.slice 22 (.slice (some ⟨bb, boff, none⟩) bn bc) (some (.int .i64 f)) (some (.int .i64 ((f + Z : Nat) : Int))) none).run Try.prog W = .ok (.slice (some ⟨bb, boff + f, none⟩) Z (bc - f)) W := fun W => cut2 W bb boff bn bc f (f + Z) Z (by omega) (by omega) HB.out.le (by omega) (by have := HB.out.le; omega)
          rw [show ((f + Z : Nat) : Int) = (f : Int) + (Z : Int) by omega] at hcut
          obtain ⟨bs, hbs⟩ : ∃ bs, blk Z base i = bs := ⟨_, rfl⟩
          have hbl2 : bs.length = Z := by rw [← hbs]; unfold blk; rw [List.length_take, List.length_drop, hbl, ← HF.out]; omega
          have HSB : Hid (Sl w (some ⟨bb, boff + f, none⟩) bs) := by
            show Sl _ _ _
            rw [← hbs]
            unfold blk
            rw [← HF.out]
            exact HB.out.sl.cut f Z (by rw [hbl]; exact hkz)
          have HBS := hide hbs
          have hsm := refsum_n (some ⟨bb, boff + f, none⟩) Z (bc - f) bs wr hbl2 (by omega) (HSB.out.kept HQ.out.1 (by simp))
          obtain ⟨sb, hsb⟩ : ∃ sb : Nat, Rol.sum bs = sb := ⟨_, rfl⟩
          rw [hsb] at hsm
          have HGO : Hid ((weak width ws = weak width bs → ws = bs) → ∀ i', i' < i + 1 → weak width ws = weak width (blk Z base i') → ws = blk Z base i') := fun h i' hi' => by
            by_cases he : i' = i
            · subst he; rw [HBS.out]; exact h
            · exact HQ.out.2 i' (by omega)
          have HF2 : Hid (f + Z = (i + 1) * Z) := by show _ = _; rw [Nat.add_mul, Nat.one_mul, ← HF.out]
          have HKQ := hide HQ.out.1
          clear hbs hne hbl hkz HQ
          by_cases heq : sb = sw
          · subst heq
            by_cases hsame : bs = ws
            · subst hsame
              have hsa := same_any (some ⟨bb, boff + f, none⟩) (some ⟨tb, toff + q, none⟩) Z (bc - f) Z (tc - q) bs bs wr hbl2 hbl2 (by omega) (HSB.out.kept HKQ.out (by simp)) (HSW.out.kept HKQ.out (by simp))
              rw [decide_eq_true (rfl : bs = bs)] at hsa
              have HX := hide (HGO.out (fun _ => rfl))
              clear hsb HGO
              go_upto_region 8 with (first
                | (go_at_call 26; refine hsm.mono ?_; rintro r w' ⟨rfl, hw⟩; obtain rfl := hw.symm; clear hsm)
                | (go_at_call 9; refine hsa.mono ?_; rintro r wy ⟨rfl, ky, hy⟩; have HKY : Hid (Kept [] w wy) := (by show Kept _ _ _; rw [hy]; exact HKQ.out.drewN ky); clear hsa hy))
              go_wp2
              go_roundw
              case rel => exact ⟨i + 1, f + Z, by omega, HF2, by omega, by go_num, HKY.out, HX.out⟩
              case measure => simp [intOf]; omega
            · have hsa := same_any (some ⟨bb, boff + f, none⟩) (some ⟨tb, toff + q, none⟩) Z (bc - f) Z (tc - q) bs ws wr hbl2 hwl (by omega) (HSB.out.kept HKQ.out (by simp)) (HSW.out.kept HKQ.out (by simp))
              rw [decide_eq_false hsame] at hsa
              have HO1 := hide (fun W (h : Kept [] w W) => rof_ok width (some ⟨bb, boff + f, none⟩) Z (bc - f) bs W hbl2 (by omega) (HSB.out.kept h (by simp)) (fun e => by cases e))
              have HO2 := hide (fun W (h : Kept [] w W) => rof_ok width (some ⟨tb, toff + q, none⟩) Z (tc - q) ws W hwl (by omega) (HSW.out.kept h (by simp)) (fun e => by cases e))
              have heqi : ∀ W, (Op.equalIn 10000 25 (.agg (bys (Sha.ident width bs)).toArray) (.agg (bys (Sha.ident width ws)).toArray)).run Try.prog W = .ok (decide (Sha.ident width bs = Sha.ident width ws)) W := fun W => Try.eqlID _ _ (Sha.ident_len _ _) (Sha.ident_len _ _) W
              have HX : Hid (¬ (Sha.ident width bs = Sha.ident width ws) → ∀ i', i' < i + 1 → weak width ws = weak width (blk Z base i') → ws = blk Z base i') := fun hni => HGO.out (fun hw => absurd (weak_eq.1 hw).2.symm hni)
              clear hsb HGO
              by_cases hid : Sha.ident width bs = Sha.ident width ws
              · rw [decide_eq_true hid] at heqi
                clear HX hid
                generalize Sha.ident width bs = I1 at heqi HO1
                generalize Sha.ident width ws = I2 at heqi HO2
                go_upto_region 11 with (first
                  | (go_at_call 26; refine hsm.mono ?_; rintro r w' ⟨rfl, hw⟩; obtain rfl := hw.symm; clear hsm)
                  | (go_at_call 9; refine hsa.mono ?_; rintro r wy ⟨rfl, ky, hy⟩; have HKY : Hid (Kept [] w wy) := (by show Kept _ _ _; rw [hy]; exact HKQ.out.drewN ky); have ho1 := HO1.out wy HKY.out; clear hsa hy HO1)
                  | (go_at_call 10; refine ho1.mono ?_; rintro r wz ⟨rfl, hkz⟩; have HKZ := hide (HKY.out.trans hkz (by simp)); have ho2 := HO2.out wz HKZ.out; clear ho1 hkz HO2)
                  | (go_at_call 10; refine ho2.mono ?_; rintro r wv ⟨rfl, hkv⟩; have HKV := hide (HKZ.out.trans hkv (by simp)); clear ho2 hkv))
                go_wp2
                go_ret
                exact ⟨rfl, HKV.out⟩
              · rw [decide_eq_false hid] at heqi
                have HX2 := hide (HX.out hid)
                clear HX hid
                generalize Sha.ident width bs = I1 at heqi HO1
                generalize Sha.ident width ws = I2 at heqi HO2
                go_upto_region 8 with (first
                  | (go_at_call 26; refine hsm.mono ?_; rintro r w' ⟨rfl, hw⟩; obtain rfl := hw.symm; clear hsm)
                  | (go_at_call 9; refine hsa.mono ?_; rintro r wy ⟨rfl, ky, hy⟩; have HKY : Hid (Kept [] w wy) := (by show Kept _ _ _; rw [hy]; exact HKQ.out.drewN ky); have ho1 := HO1.out wy HKY.out; clear hsa hy HO1)
                  | (go_at_call 10; refine ho1.mono ?_; rintro r wz ⟨rfl, hkz⟩; have HKZ := hide (HKY.out.trans hkz (by simp)); have ho2 := HO2.out wz HKZ.out; clear ho1 hkz HO2)
                  | (go_at_call 10; refine ho2.mono ?_; rintro r wv ⟨rfl, hkv⟩; have HKV := hide (HKZ.out.trans hkv (by simp)); clear ho2 hkv))
                clear heqi
                go_wp2
                go_roundw
                case rel => exact ⟨i + 1, f + Z, by omega, HF2, by omega, by go_num, HKV.out, HX2.out⟩
                case measure => simp [intOf]; omega
          · have hne2 : ((sb : Int) == (sw : Int)) = false := by simp; omega
            have HX := hide (HGO.out (fun hw => absurd (weak_eq.1 hw).1 (fun h => heq (by rw [← hsb, ← HSUM.out, h]))))
            clear hsb HGO heq
            go_upto_region 8 with (go_at_call 26; refine hsm.mono ?_; rintro r w' ⟨rfl, hw⟩; obtain rfl := hw.symm; clear hsm)
            go_wp2
            go_roundw
            case rel => exact ⟨i + 1, f + Z, by omega, HF2, by omega, by go_num, HKQ.out, HX.out⟩
            case measure => simp [intOf]; omega
        · obtain rfl : i = bn / Z := by omega
          have hnl : ¬ (f : Int) + (Z : Int) ≤ (bn : Int) := by
            have h1 := Nat.div_add_mod bn Z
            have h2 := Nat.mod_lt bn (show Z > 0 by omega)
            have h3 : Z * (bn / Z) = bn / Z * Z := Nat.mul_comm _ _
            have h4 := HF.out
            omega
          have hwa2 : IntKind.i64.wrap ((f : Int) + (Z : Int)) = (f : Int) + (Z : Int) := wrap64 (by omega) (by omega)
          have HX : Hid (Kept [] w wr ∧ ∀ q' i, q' < q + 1 → q' + Z ≤ tn → i < bn / Z → weak width ((target.drop q').take Z) = weak width (blk Z base i) → (target.drop q').take Z = blk Z base i) := ⟨HQ.out.1, fun q' i hq' => by
            by_cases he : q' = q
            · subst he
              rw [HWS.out]
              exact fun _ hi => HQ.out.2 i hi
            · exact HP.out.2 q' i (by omega)⟩
          clear HP HQ HF
          go_wp2
          go_roundw
          case rel => exact ⟨q + 1, by omega, by go_num, HX⟩
          case measure => simp [intOf]; omega
    · have hnl : ¬ (q : Int) + (Z : Int) ≤ (tn : Int) := by omega
      have hwa : IntKind.i64.wrap ((q : Int) + (Z : Int)) = (q : Int) + (Z : Int) := wrap64 (by omega) (by omega)
      exfalso
      apply HN.out
      intro q' i h1 h2 h3
      rw [HT.out.len] at h1
      rw [HB.out.len] at h2
      exact HP.out.2 q' i (by omega) h1 h2 h3
end

end Go.Proofs.Ytmklodligplbaab
