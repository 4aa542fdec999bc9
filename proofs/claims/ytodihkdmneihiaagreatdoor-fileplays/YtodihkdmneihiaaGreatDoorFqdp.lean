import Derived.Test.YtodihkdmneihiaaGreatDoorLdap
import Derived.Test.YtodihkdmneihiaaGreatDoorFsbp
namespace Go.Proofs.YtodihkdmneihiaaGreatDoor
section
open Go.RowKit Dsk
set_option linter.unusedVariables false
set_option linter.unusedSimpArgs false
namespace Dsk
open _root_.Go.Proofs.YtodihkdmneihiaaGreatDoor.Dsk.Ds
section
variable {S D D' D1 D2 : Ds} {n q d : By} {c c0 : Bool} {e f : Int}
theorem clr_none (h : (S.find q).1 = 53) : S.clr q = (false, 0, S) := by unfold Ds.clr; rw [if_pos h]
theorem clr_some (h : (S.find q).1 ≠ 53) : S.clr q = (true, S.remove q) := by unfold Ds.clr; rw [if_neg h]
theorem beg_of (h : S.clr q = (c0, 0, D1)) (h2 : D1.create q = (0, D2)) : S.beg q = (true, 0, D2) := by unfold Ds.beg; rw [h]; simp [h2]
theorem beg_bad (h : S.clr q = (c0, 0, D1)) (h2 : D1.create q = (e, D2)) (he : e ≠ 0) : S.beg q = (c0, e, D2) := by unfold Ds.beg; rw [h]; simp [h2, he]
theorem beg_clr (h : S.clr q = (c0, e, D1)) (he : e ≠ 0) : S.beg q = (c0, e, D1) := by unfold Ds.beg; rw [h]; simp [he]
theorem lay_bad (h : S.beg q = (c0, e, D)) (he : e ≠ 0) : S.lay n q d = D.rest c0 e q := by unfold Ds.lay; rw [h]; simp [he]
theorem rest_no (h : forRoom e = false) : D.rest c e q = (e, D) := by unfold Ds.rest; simp [h]
theorem rest_c : D.rest false e q = (e, D) := by unfold Ds.rest; simp
theorem rest_yes (h : forRoom e = true) (h2 : D.tbk q = (0, D')) : D.rest true e q = (e, D') := by unfold Ds.rest; simp [h, h2]
theorem rest_off (h : forRoom e = true) (h2 : D.tbk q = (f, D')) (hf : f ≠ 0) : D.rest true e q = (f, D') := by unfold Ds.rest; simp [h, h2, hf]
theorem tbk_of (h : D.clr q = (c, 0, D1)) : D.tbk q = D1.syncNames := by unfold Ds.tbk; rw [h]; simp
theorem tbk_bad (h : D.clr q = (c, f, D1)) (hf : f ≠ 0) : D.tbk q = (f, D1) := by unfold Ds.tbk; rw [h]; simp [hf]
theorem fin_1 (h : S.append q d = (e, D)) (he : e ≠ 0) : S.fin n q d = (e, D) := by unfold Ds.fin; rw [h]; simp [he]
theorem fin_2 (h : S.append q d = (0, D)) (h2 : D.sync q = (e, D1)) (he : e ≠ 0) : S.fin n q d = (e, D1) := by unfold Ds.fin; rw [h]; simp [h2, he]
theorem fin_3 (h : S.append q d = (0, D)) (h2 : D.sync q = (0, D1)) (h3 : D1.rename q n = (e, D2)) (he : e ≠ 0) : S.fin n q d = (e, D2) := by unfold Ds.fin; rw [h]; simp [h2, h3, he]
theorem fin_4 (h : S.append q d = (0, D)) (h2 : D.sync q = (0, D1)) (h3 : D1.rename q n = (0, D2)) : S.fin n q d = D2.syncNames := by unfold Ds.fin; rw [h]; simp [h2, h3]
theorem isPut_nm (h : isPut n = true) : isNm n = true ∧ isNm (43 :: n) = true := by
 unfold isPut at h
 simp only [Bool.and_eq_true, decide_eq_true_eq] at h
 obtain ⟨⟨h1, h2⟩, _⟩ := h
 refine ⟨h1, ?_⟩
 unfold isNm at h1 ⊢
 simp only [Bool.and_eq_true, decide_eq_true_eq, List.length_cons, List.all_cons] at h1 ⊢
 exact ⟨⟨by omega, by omega⟩, by decide, h1.2⟩
end
section
variable {S D : Ds} {n q d : By} {pre rest : List Nc} {t : Option Th} {m : Nat} {b : Bool}
end
theorem forRoom_50 : forRoom 50 = false := by decide
end Dsk
end

section
open Go.RowKit Dsk
set_option linter.unusedVariables false
set_option linter.unusedSimpArgs false
namespace Dsk
def Is (D : Ds) (q : By) : Prop := D.on = true ∧ isNm q = true ∧ D.shown.Up ∧ ∃ k, D.shown.get q = some k
def No (D : Ds) (q : By) : Prop := D.on = true ∧ isNm q = true ∧ D.shown.Up ∧ D.shown.get q = none
section
variable {D : Ds} {q n d : By}
theorem Is.find (h : Is D q) : (D.find q).1 = 0 := by
 obtain ⟨h1, h2, _, k, h3⟩ := h
 unfold Ds.find; rw [if_pos h1, if_pos h2, h3]
theorem No.find (h : No D q) : (D.find q).1 = 53 := by
 obtain ⟨h1, h2, _, h3⟩ := h
 unfold Ds.find; rw [if_pos h1, if_pos h2, h3]
theorem tick_on {D : Ds} (h : D.on = true) (g : D.goesOff = false) : D.tick.on = true := by unfold Ds.tick; rw [h, g]; rfl
theorem remove_is (h : Is D q) : (∃ D1, D.remove q = (50, D1)) ∨ ∃ D1, D.remove q = (0, D1) ∧ No D1 q := by
 have e : D.remove q = (D.ans 0, D.tick.addName (.tk q)) := by unfold Ds.remove; rw [if_neg (by rw [h.find]; simp)]
 rw [e]
 unfold Ds.ans
 cases g : D.goesOff with
 | true => exact .inl ⟨_, rfl⟩
 | false =>
  refine .inr ⟨_, rfl, tick_on h.1 g, h.2.1, h.2.2.1.del q, ?_⟩
  show (D.shown.del q).get q = none
  rw [get_del h.2.2.1, if_pos rfl]
theorem create_no (h : No D q) : (∃ D1, D.create q = (50, D1)) ∨ (∃ D1, D.create q = (0, D1) ∧ Is D1 q) ∨ ∃ E D1, (E = 55 ∨ E = 56) ∧ D.create q = (E, D1) ∧ No D1 q := by
 have hf := h.find
 unfold Ds.create
 rw [if_neg (by rw [hf]; decide), if_neg (by rw [hf]; simp)]
 unfold Ds.ans
 cases g : D.goesOff with
 | true => split <;> exact .inl ⟨_, rfl⟩
 | false =>
  by_cases hr : D.refusedCreate = 0
  ·rw [if_pos hr]
   refine .inr (.inl ⟨_, rfl, tick_on h.1 g, h.2.1, h.2.2.1.put q _, D.nx, ?_⟩)
   show (D.shown.put q D.nx).get q = _
   rw [get_put_same h.2.2.1]
  ·rw [if_neg hr]
   refine .inr (.inr ⟨D.refusedCreate, _, ?_, rfl, tick_on h.1 g, h.2.1, h.2.2.1, h.2.2.2⟩)
   unfold Ds.refusedCreate at hr ⊢
   by_cases a : 256 ≤ D.shown.length
   ·rw [if_pos a]; exact .inr rfl
   ·by_cases b : D.lacks = true
    ·rw [if_neg a, if_pos b]; exact .inl rfl
    ·rw [if_neg a, if_neg b] at hr; exact absurd rfl hr
theorem append_is (h : Is D q) (d : By) : (∃ D1, D.append q d = (50, D1)) ∨ (∃ D1, D.append q d = (0, D1) ∧ Is D1 q) ∨ ∃ D1, D.append q d = (55, D1) ∧ Is D1 q := by
 unfold Ds.append
 rw [if_neg (by rw [h.find]; simp)]
 unfold Ds.write Ds.ans
 cases g : D.goesOff with
 | true => split <;> exact .inl ⟨_, rfl⟩
 | false =>
  split
  ·exact .inr (.inr ⟨_, rfl, tick_on h.1 g, h.2⟩)
  ·exact .inr (.inl ⟨_, rfl, tick_on h.1 g, h.2⟩)
theorem sync_is (h : Is D q) : (∃ D1, D.sync q = (50, D1)) ∨ ∃ D1, D.sync q = (0, D1) ∧ Is D1 q := by
 unfold Ds.sync
 rw [if_neg (by rw [h.find]; simp)]
 cases g : D.goesOff with
 | true => exact .inl ⟨_, rfl⟩
 | false => exact .inr ⟨_, rfl, tick_on h.1 g, h.2⟩
theorem rename_is (h : Is D q) (hn : isNm n = true) : ∃ D1, D.rename q n = (50, D1) ∨ D.rename q n = (0, D1) := by
 unfold Ds.rename
 rw [if_pos h.1, if_pos hn, if_neg (by rw [h.find]; simp)]
 unfold Ds.ans
 cases g : D.goesOff with
 | true => split <;> exact ⟨_, .inl rfl⟩
 | false => split <;> exact ⟨_, .inr rfl⟩
theorem names_is (D : Ds) : ∃ D1, D.syncNames = (50, D1) ∨ D.syncNames = (0, D1) := by
 unfold Ds.syncNames
 split
 ·split
  ·exact ⟨_, .inl rfl⟩
  ·exact ⟨_, .inr rfl⟩
 ·exact ⟨_, .inl rfl⟩
theorem forRoom_55 : forRoom 55 = true := by decide
theorem forRoom_0 : forRoom 0 = false := by decide
theorem tail_same (h : Is D q) (hn : isNm n = true) (d : By) : (if (D.append q d).1 = 0 then (D.append q d).2.rput2 n q else if (D.append q d).1 = 50 then D.append q d else off2 (D.append q d).1 ((D.append q d).2.raway q)) = (D.fin n q d).2.rest true (D.fin n q d).1 q := by
 rcases append_is h d with ⟨D1, h1⟩ | ⟨D1, h1, i1⟩ | ⟨D1, h1, i1⟩
 ·rw [fin_1 h1 (by decide), rest_no forRoom_50]
  simp [h1]
 ·rcases sync_is i1 with ⟨D2, h2⟩ | ⟨D2, h2, i2⟩
  ·rw [fin_2 h1 h2 (by decide), rest_no forRoom_50]
   simp [h1, Ds.rput2, bnd, h2]
  ·obtain ⟨D3, h3⟩ := rename_is i2 hn
   rcases h3 with h3 | h3
   ·rw [fin_3 h1 h2 h3 (by decide), rest_no forRoom_50]
    simp [h1, Ds.rput2, bnd, h2, h3]
   ·rw [fin_4 h1 h2 h3]
    obtain ⟨D4, h4⟩ := names_is D3
    rcases h4 with h4 | h4
    ·rw [h4, rest_no forRoom_50]
     simp [h1, Ds.rput2, bnd, h2, h3, h4]
    ·rw [h4, rest_no forRoom_0]
     simp [h1, Ds.rput2, bnd, h2, h3, h4]
 ·rw [fin_1 h1 (by decide)]
  show _ = D1.rest true 55 q
  have hc := clr_some (S := D1) (q := q) (by rw [i1.find]; decide)
  rcases remove_is i1 with ⟨D2, h2⟩ | ⟨D2, h2, i2⟩
  ·rw [h2] at hc
   rw [rest_off (e := 55) forRoom_55 (tbk_bad hc (by decide)) (by decide)]
   simp [h1, Ds.raway, bnd, off2, h2]
  ·rw [h2] at hc
   obtain ⟨D3, h3⟩ := names_is D2
   have ht := tbk_of hc
   rcases h3 with h3 | h3
   ·rw [h3] at ht
    rw [rest_off (e := 55) forRoom_55 ht (by decide)]
    simp [h1, Ds.raway, bnd, off2, h2, h3]
   ·rw [h3] at ht
    rw [rest_yes (e := 55) forRoom_55 ht]
    simp [h1, Ds.raway, bnd, off2, h2, h3]
theorem Ds.rput_put {T : Ds} (hw : T.shown.Up) (n d : By) : T.rput n d = T.put n d := by
 unfold Ds.rput Ds.put
 by_cases hp : isPut n = true
 ·rw [if_pos hp, if_pos hp]
  by_cases hon : T.on = true
  ·rw [if_pos hon, if_pos hon]
   obtain ⟨nmn, nmq⟩ := isPut_nm hp
   generalize (43 :: n : By) = q at *
   cases hg : T.shown.get q with
   | none =>
    have i0 : No T q := ⟨hon, nmq, hw, hg⟩
    have hc := clr_none i0.find
    rw [if_neg (by rw [i0.find]; decide)]
    rcases create_no i0 with ⟨D1, h1⟩ | ⟨D1, h1, i1⟩ | ⟨E, D1, hE, h1, i1⟩
    ·rw [lay_bad (beg_bad hc h1 (by decide)) (by decide), rest_c]
     simp [Ds.rput1, h1]
    ·have ht := tail_same i1 nmn d
     unfold Ds.lay
     rw [beg_of hc h1]
     simp only [Ds.rput1, h1, if_true]
     exact ht
    ·have hE0 : E ≠ 0 := by omega
     rw [lay_bad (beg_bad hc h1 hE0) hE0, rest_c]
     simp [Ds.rput1, h1, hE0]
   | some k =>
    have i0 : Is T q := ⟨hon, nmq, hw, k, hg⟩
    have hc := clr_some (S := T) (q := q) (by rw [i0.find]; decide)
    rw [if_pos i0.find]
    rcases remove_is i0 with ⟨D0, h0⟩ | ⟨D0, h0, j0⟩
    ·rw [h0] at hc
     rw [lay_bad (beg_clr hc (by decide)) (by decide), rest_no forRoom_50]
     simp [bnd, h0]
    ·rw [h0] at hc
     have eb : bnd (T.remove q) (fun T => T.rput1 true n q d) = D0.rput1 true n q d := by simp [bnd, h0]
     rw [eb]
     rcases create_no j0 with ⟨D1, h1⟩ | ⟨D1, h1, i1⟩ | ⟨E, D1, hE, h1, i1⟩
     ·rw [lay_bad (beg_bad hc h1 (by decide)) (by decide), rest_no forRoom_50]
      simp [Ds.rput1, h1]
     ·have ht := tail_same i1 nmn d
      unfold Ds.lay
      rw [beg_of hc h1]
      simp only [Ds.rput1, h1, if_true]
      exact ht
     ·have hE0 : E ≠ 0 := by omega
      have hE5 : E ≠ 50 := by omega
      have hr : forRoom E = true := by rcases hE with rfl | rfl <;> decide
      rw [lay_bad (beg_bad hc h1 hE0) hE0]
      have ht := tbk_of (clr_none i1.find)
      obtain ⟨D3, h3⟩ := names_is D1
      rcases h3 with h3 | h3
      ·rw [h3] at ht
       rw [rest_off hr ht (by decide)]
       simp [Ds.rput1, h1, hE0, hE5, off2, h3]
      ·rw [h3] at ht
       rw [rest_yes hr ht]
       simp [Ds.rput1, h1, hE0, hE5, off2, h3]
  ·rw [if_neg hon, if_neg hon]
 ·rw [if_neg hp, if_neg hp]
end
end Dsk
end

end Go.Proofs.YtodihkdmneihiaaGreatDoor
