/-
  DiskTorn, as mathematics.
-/
import Derived.Test.YtlokekjljibmbaaSa
namespace Go.Proofs.Ytlokekjljibmbaa
open Go.RowKit Dsk
set_option linter.unusedVariables false
set_option linter.unusedSimpArgs false
namespace Dsk
open Ds
/-- A write of data at a place, or a cut to it. -/
structure Wt where
  cut : Bool
  at_ : Int
  data : By
def Wt.ch (x : Wt) : Ch := if x.cut then .cut x.at_.toNat else .wr x.at_.toNat x.data
def Wt.do (S : Ds) (x : Wt) : Int × Ds := if x.cut then S.truncate [102] x.at_ else S.writeAt [102] x.at_ x.data
/-- One safe file, and changes of its bytes. -/
structure To (S : Ds) (base : By) (D : List Ch) : Prop where
  room : S.room = 1048576
  safe : S.safe = [([102], 0)]
  shown : S.shown = [([102], 0)]
  row : S.row = []
  nx : S.nx = 1
  th : S.th 0 = ⟨base, D, runs base D⟩
  to : S.to = 0
theorem To.find {S : Ds} {base : By} {D : List Ch} (h : To S base D) (hon : S.on = true) : S.find [102] = (0, 0) := by
  unfold Ds.find
  rw [if_pos hon, h.shown]
  rfl
theorem To.lacks {S : Ds} {base : By} {D : List Ch} (h : To S base D) : S.lacks = false := by
  unfold Ds.lacks
  rw [h.to]
  simp only [Bool.and_eq_false_iff, decide_eq_false_iff_not]
  right
  omega
theorem To.used {S : Ds} {base : By} {D : List Ch} (h : To S base D) : S.used = (runs base D).length := by
  unfold Ds.used
  rw [h.shown]
  simp [h.th]
theorem To.plan {S : Ds} {base : By} {D : List Ch} (h : To S base D) (o : Int) : To (S.setPlan o 0 0) base D := by
  unfold setPlan
  split
  · exact ⟨h.room, h.safe, h.shown, h.row, h.nx, h.th, rfl⟩
  · exact h
theorem To.add {S : Ds} {base : By} {D : List Ch} (h : To S base D) (c : Ch) : To (S.tick.addByte 0 c) base (D ++ [c]) := by
  refine ⟨h.room, h.safe, h.shown, h.row, h.nx, ?_, h.to⟩
  show upd S.th 0 ((S.th 0).change c) 0 = _
  rw [upd_same, h.th, runs_snoc]
  rfl
theorem To.step {S : Ds} {base : By} {D : List Ch} (h : To S base D) (hon : S.on = true) (x : Wt) (hb : (runs base D).length + x.data.length ≤ 1048576) (hf : 0 ≤ x.at_ ∧ x.at_ ≤ (runs base D).length) : (Wt.do S x).1 = (if S.goesOff then 50 else 0) ∧ To (Wt.do S x).2 base (D ++ [x.ch]) ∧ (Wt.do S x).2.on = !S.goesOff := by
  unfold Wt.do Wt.ch
  have hl : ((S.th 0).shown.length : Int) = (runs base D).length := by rw [h.th]
  by_cases hc : x.cut = true
  · simp only [if_pos hc]
    unfold truncate
    rw [h.find hon]
    simp only [ne_eq, not_true_eq_false, if_false]
    rw [if_neg (by omega)]
    exact ⟨rfl, h.add _, by simp [tick, addByte, hon]⟩
  · simp only [if_neg hc]
    unfold writeAt write
    rw [h.find hon]
    simp only [ne_eq, not_true_eq_false, if_false]
    rw [if_neg (by omega)]
    have hfull : S.full ((x.at_.toNat : Int) + x.data.length - (S.th 0).shown.length) = false := by
      simp only [full, h.lacks, Bool.false_or, Bool.and_eq_false_iff, decide_eq_false_iff_not]
      right
      rw [h.used, h.room]
      omega
    rw [if_neg (by rw [hfull]; decide)]
    exact ⟨rfl, h.add _, by simp [tick, addByte, hon]⟩
theorem To.miss {S : Ds} {base : By} {D : List Ch} (h : To S base D) (hon : S.on = true) (x : Wt) (hf : ¬ (0 ≤ x.at_ ∧ x.at_ ≤ (runs base D).length)) : Wt.do S x = (54, S) := by
  unfold Wt.do
  have hl : ((S.th 0).shown.length : Int) = (runs base D).length := by rw [h.th]
  by_cases hc : x.cut = true
  · simp only [if_pos hc]
    unfold truncate
    rw [h.find hon]
    simp only [ne_eq, not_true_eq_false, if_false]
    rw [if_pos (by omega)]
  · simp only [if_neg hc]
    unfold writeAt
    rw [h.find hon]
    simp only [ne_eq, not_true_eq_false, if_false]
    rw [if_pos (by omega)]
/-- Names may have been changed behind it. -/
structure Tz (S : Ds) (base : By) (D : List Ch) : Prop where
  safe : S.safe = [([102], 0)]
  th : (S.th 0).safe = base ∧ (S.th 0).row = D
theorem To.tz {S : Ds} {base : By} {D : List Ch} (h : To S base D) : Tz S base D := ⟨h.safe, by rw [h.th]; exact ⟨rfl, rfl⟩⟩
theorem Tz.crash {S : Ds} {base : By} {D : List Ch} (h : Tz S base D) (pick : Int) : (S.crash [0, pick]).files = [([102], torn base D (rnd pick (unitsOf D)))] := by
  have e : S.crashNm [0, pick] = [([102], 0)] := by
    unfold crashNm
    simp only [List.getD_cons_zero, rnd_zero, List.take_zero]
    exact h.safe
  show (S.crashNm [0, pick]).map (fun p => (p.1, (crashTh [0, pick] 0 (S.crashNm [0, pick]) S.th p.2).shown)) = _
  rw [e]
  show [([102], (upd S.th 0 ((S.th 0).crash pick) 0).shown)] = _
  rw [upd_same]
  show [([102], torn (S.th 0).safe (S.th 0).row (rnd pick (unitsOf (S.th 0).row)))] = _
  rw [h.th.1, h.th.2]
theorem find_of {S : Ds} {n : By} {k : Nat} (hon : S.on = true) (hn : isNm n = true) (hg : S.shown.get n = some k) : S.find n = (0, k) := by
  unfold Ds.find
  rw [if_pos hon, if_pos hn, hg]
theorem calm_make {S : Ds} (c : Calm S) (hl : S.shown.length < 256) {n : By} (hn : isNm n = true) (hg : S.shown.get n = none) : S.create n = (0, ({ S.tick with th := upd S.th S.nx Th.new, nx := S.nx + 1 } : Ds).addName (.mk n S.nx)) := by
  have hf : S.find n = (53, 0) := by
    unfold Ds.find
    rw [if_pos c.on, if_pos hn, hg]
  have hr : S.refusedCreate = 0 := by simp [Ds.refusedCreate, c.lacks, show ¬ 256 ≤ S.shown.length by omega]
  unfold Ds.create
  rw [hf, hr, c.ans]
  rfl
/-- The file laid and made safe. -/
def torn0 (base : By) : Ds := ((((Ds.fresh 1048576).create [102]).2.append [102] base).2.sync [102]).2.syncNames.2
theorem torn0_ok (base : By) (hb : base.length ≤ 1048576) : ((Ds.fresh 1048576).create [102]).1 = 0 ∧ (((Ds.fresh 1048576).create [102]).2.append [102] base).1 = 0 ∧ ((((Ds.fresh 1048576).create [102]).2.append [102] base).2.sync [102]).1 = 0 ∧ ((((Ds.fresh 1048576).create [102]).2.append [102] base).2.sync [102]).2.syncNames.1 = 0 ∧ To (torn0 base) base [] ∧ (torn0 base).on = true := by
  have c0 : Calm (Ds.fresh 1048576) := ⟨rfl, rfl, rfl⟩
  rcases calm_create c0 (by decide) [102] with ⟨h1, _, _, e1⟩ | ⟨h1, _⟩
  · unfold torn0
    rw [h1, e1]
    generalize hS1 : (({ (Ds.fresh 1048576).tick with th := upd (Ds.fresh 1048576).th (Ds.fresh 1048576).nx Th.new, nx := (Ds.fresh 1048576).nx + 1 } : Ds).addName (.mk [102] (Ds.fresh 1048576).nx)) = S1
    have c1 : Calm S1 := by rw [← hS1]; exact ⟨rfl, rfl, rfl⟩
    have s1 : S1.shown = [([102], 0)] := by rw [← hS1]; rfl
    have f1 : S1.find [102] = (0, 0) := by unfold Ds.find; rw [if_pos c1.on, s1]; rfl
    have t1 : S1.th 0 = Th.new := by rw [← hS1]; rfl
    have u1 : S1.used = 0 := by unfold Ds.used; rw [s1]; simp [t1, Th.new]
    have r1 : S1.room = 1048576 := by rw [← hS1]; rfl
    have n1 : S1.nx = 1 := by rw [← hS1]; rfl
    have hap : S1.append [102] base = (0, S1.tick.addByte 0 (.wr 0 base)) := by
      unfold Ds.append Ds.write
      rw [f1]
      simp only [ne_eq, not_true_eq_false, if_false, t1]
      have hfull : S1.full ((Th.new.shown.length : Int) + base.length - Th.new.shown.length) = false := by
        simp only [Ds.full, c1.lacks, Bool.false_or, Bool.and_eq_false_iff, decide_eq_false_iff_not]
        right
        rw [u1, r1]
        simp only [Th.new, List.length_nil]
        omega
      rw [if_neg (by rw [hfull]; decide), c1.ans]
      rfl
    rw [hap]
    have c2 : Calm (S1.tick.addByte 0 (.wr 0 base)) := ⟨c1.tick.on, c1.off, c1.to⟩
    have s2 : (S1.tick.addByte 0 (.wr 0 base)).shown = [([102], 0)] := s1
    have f2 : (S1.tick.addByte 0 (.wr 0 base)).find [102] = (0, 0) := find_of c2.on (by decide) (by rw [s2]; rfl)
    have hsy := calm_sync c2 f2
    simp only [hsy]
    have c3 : Calm ({ (S1.tick.addByte 0 (.wr 0 base)).tick with th := upd (S1.tick.addByte 0 (.wr 0 base)).th 0 ((S1.tick.addByte 0 (.wr 0 base)).th 0).sync } : Ds) := ⟨c2.tick.on, c2.off, c2.to⟩
    generalize hS3 : ({ (S1.tick.addByte 0 (.wr 0 base)).tick with th := upd (S1.tick.addByte 0 (.wr 0 base)).th 0 ((S1.tick.addByte 0 (.wr 0 base)).th 0).sync } : Ds) = S3 at *
    have e4 : S3.syncNames = (0, { S3.tick with safe := S3.shown, row := [] }) := by
      unfold Ds.syncNames
      rw [if_pos c3.on, c3.goes]
      rfl
    rw [e4]
    have s3 : S3.shown = [([102], 0)] := by rw [← hS3]; exact s1
    have hth : S3.th 0 = ⟨base, [], base⟩ := by
      rw [← hS3]
      show upd (S1.tick.addByte 0 (.wr 0 base)).th 0 ((S1.tick.addByte 0 (.wr 0 base)).th 0).sync 0 = _
      rw [upd_same]
      show (upd S1.th 0 ((S1.th 0).change (.wr 0 base)) 0).sync = _
      rw [upd_same, t1]
      simp [Th.new, Th.change, Th.sync, Ch.apply, Ch.units]
    refine ⟨by first | rfl | trivial, by first | rfl | trivial, by first | rfl | trivial, by first | rfl | trivial, ⟨?_, s3, s3, rfl, ?_, hth, c3.to⟩, c3.tick.on⟩
    · show S3.room = _
      rw [← hS3]
      exact r1
    · show S3.nx = _
      rw [← hS3]
      exact n1
  · exact absurd (by decide) h1
/-- Names are changed behind the writes. -/
theorem away1 {S : Ds} {base : By} {D : List Ch} (h : To S base D) (c : Calm S) : (S.remove [102]).1 = 0 ∧ Tz (S.remove [102]).2 base D := by
  unfold Ds.remove
  rw [h.find c.on]
  simp only [ne_eq, not_true_eq_false, if_false]
  exact ⟨c.ans 0, h.safe, by show (S.th 0).safe = base ∧ (S.th 0).row = D; rw [h.th]; exact ⟨rfl, rfl⟩⟩
theorem away3 {S : Ds} {base : By} {D : List Ch} (h : To S base D) (c : Calm S) : (S.rename [102] [104]).1 = 0 ∧ ((S.rename [102] [104]).2.create [102]).1 = 0 ∧ Tz ((S.rename [102] [104]).2.create [102]).2 base D := by
  have e : S.rename [102] [104] = (0, S.tick.addName (.gv [102] [104])) := by
    unfold Ds.rename
    rw [if_pos c.on, if_pos (by decide), h.find c.on]
    simp only [ne_eq, not_true_eq_false, if_false]
    rw [if_neg (by decide), c.ans]
  rw [e]
  generalize hS1 : S.tick.addName (.gv [102] [104]) = S1
  have c1 : Calm S1 := by rw [← hS1]; exact ⟨c.tick.on, c.off, c.to⟩
  have s1 : S1.shown = [([104], 0)] := by
    rw [← hS1]
    show Nc.apply (.gv [102] [104]) S.shown = _
    rw [h.shown]
    rfl
  have n1 : S1.nx = 1 := by rw [← hS1]; exact h.nx
  have g1 : S1.shown.get [102] = none := by rw [s1]; rfl
  refine ⟨rfl, ?_⟩
  rw [calm_make c1 (by rw [s1]; decide) (by decide) g1]
  refine ⟨rfl, ?_, ?_⟩
  · show S1.safe = _
    rw [← hS1]
    exact h.safe
  · show (upd S1.th S1.nx Th.new 0).safe = base ∧ (upd S1.th S1.nx Th.new 0).row = D
    rw [upd_other _ _ (by rw [n1]; decide)]
    rw [← hS1]
    show (S.th 0).safe = base ∧ (S.th 0).row = D
    rw [h.th]
    exact ⟨rfl, rfl⟩
theorem away2 {S : Ds} {base : By} {D : List Ch} (h : To S base D) (c : Calm S) (hb : (runs base D).length ≤ 1000000) : (S.create [103]).1 = 0 ∧ ((S.create [103]).2.append [103] [110, 101, 119]).1 = 0 ∧ (((S.create [103]).2.append [103] [110, 101, 119]).2.sync [103]).1 = 0 ∧ ((((S.create [103]).2.append [103] [110, 101, 119]).2.sync [103]).2.rename [103] [102]).1 = 0 ∧ Tz ((((S.create [103]).2.append [103] [110, 101, 119]).2.sync [103]).2.rename [103] [102]).2 base D := by
  have g0 : S.shown.get [103] = none := by rw [h.shown]; rfl
  rw [calm_make c (by rw [h.shown]; decide) (by decide) g0]
  · generalize hS1 : (({ S.tick with th := upd S.th S.nx Th.new, nx := S.nx + 1 } : Ds).addName (.mk [103] S.nx)) = S1
    have c1 : Calm S1 := by rw [← hS1]; exact ⟨c.tick.on, c.off, c.to⟩
    have s1 : S1.shown = [([102], 0), ([103], 1)] := by
      rw [← hS1]
      show S.shown.put [103] S.nx = _
      rw [h.shown, h.nx]
      rfl
    have f1 : S1.find [103] = (0, 1) := by unfold Ds.find; rw [if_pos c1.on, s1]; rfl
    have t1 : S1.th 1 = Th.new := by rw [← hS1]; show upd S.th S.nx Th.new 1 = _; rw [h.nx, upd_same]
    have t0 : S1.th 0 = ⟨base, D, runs base D⟩ := by rw [← hS1]; show upd S.th S.nx Th.new 0 = _; rw [upd_other _ _ (by rw [h.nx]; decide), h.th]
    have u1 : S1.used = (runs base D).length := by unfold Ds.used; rw [s1]; simp [t0, t1, Th.new]
    have r1 : S1.room = 1048576 := by rw [← hS1]; exact h.room
    have hap : S1.append [103] [110, 101, 119] = (0, S1.tick.addByte 1 (.wr 0 [110, 101, 119])) := by
      unfold Ds.append Ds.write
      rw [f1]
      simp only [ne_eq, not_true_eq_false, if_false, t1]
      have hfull : S1.full ((Th.new.shown.length : Int) + ([110, 101, 119] : By).length - Th.new.shown.length) = false := by
        simp only [Ds.full, c1.lacks, Bool.false_or, Bool.and_eq_false_iff, decide_eq_false_iff_not]
        right
        rw [u1, r1]
        simp only [Th.new, List.length_nil, List.length_cons]
        omega
      rw [if_neg (by rw [hfull]; decide), c1.ans]
      rfl
    rw [hap]
    have c2 : Calm (S1.tick.addByte 1 (.wr 0 [110, 101, 119])) := ⟨c1.tick.on, c1.off, c1.to⟩
    generalize hS2 : S1.tick.addByte 1 (.wr 0 [110, 101, 119]) = S2 at *
    have s2 : S2.shown = [([102], 0), ([103], 1)] := by rw [← hS2]; exact s1
    have f2 : S2.find [103] = (0, 1) := by unfold Ds.find; rw [if_pos c2.on, s2]; rfl
    simp only [calm_sync c2 f2]
    have c3 : Calm ({ S2.tick with th := upd S2.th 1 (S2.th 1).sync } : Ds) := ⟨c2.tick.on, c2.off, c2.to⟩
    generalize hS3 : ({ S2.tick with th := upd S2.th 1 (S2.th 1).sync } : Ds) = S3 at *
    have s3 : S3.shown = [([102], 0), ([103], 1)] := by rw [← hS3]; exact s2
    have f3 : S3.find [103] = (0, 1) := by unfold Ds.find; rw [if_pos c3.on, s3]; rfl
    have e4 : S3.rename [103] [102] = (0, S3.tick.addName (.gv [103] [102])) := by
      unfold Ds.rename
      rw [if_pos c3.on, if_pos (by decide), f3]
      simp only [ne_eq, not_true_eq_false, if_false]
      rw [if_neg (by decide), c3.ans]
    rw [e4]
    refine ⟨by first | rfl | trivial, by first | rfl | trivial, by first | rfl | trivial, by first | rfl | trivial, ⟨?_, ?_⟩⟩
    · show S3.safe = _
      rw [← hS3]
      show S2.safe = _
      rw [← hS2]
      show S1.safe = _
      rw [← hS1]
      exact h.safe
    · show (S3.th 0).safe = base ∧ (S3.th 0).row = D
      have : S3.th 0 = S1.th 0 := by
        rw [← hS3]
        show upd S2.th 1 (S2.th 1).sync 0 = _
        rw [upd_other _ _ (by decide), ← hS2]
        show upd S1.th 1 ((S1.th 1).change (.wr 0 [110, 101, 119])) 0 = _
        rw [upd_other _ _ (by decide)]
      rw [this, t0]
      exact ⟨rfl, rfl⟩
end Dsk
end Go.Proofs.Ytlokekjljibmbaa
