import Derived.Test.YtodihkdmneihiaaGreatDoorFsqp
import Derived.Test.YtodihkdmneihiaaGreatDoorFsop
import Derived.Test.YtodihkdmneihiaaGreatDoorHop
import Derived.Deep.MidRow
import Derived.Lib.SmallJoins
import Derived.OpenShut
import Derived.Test.YtodihkdmneihiaaGreatDoorRfcp
import Derived.Great.BuildSlice
namespace Go.Proofs.YtodihkdmneihiaaGreatDoor
section
open Go.ChangeShapes Go.WideShapes Go.ChangeAt Go.RowKit Go.Deep Go.Joins Dsk
set_option linter.unusedVariables false
set_option linter.unusedSimpArgs false
structure Stz where
 kind : Int
 name : By
 tx : By
 da : Option Addr
 dn : Nat
 dc : Nat
 ds : By
 n : Int
 po : Int
 pf : Int
 pt : Int
 pa : Option Addr
 pn : Nat
 pc : Nat
 ps : List Int
def stz0 : Stz := ⟨0, [], [], none, 0, 0, [], 0, 0, 0, 0, none, 0, 0, []⟩
instance : Inhabited Stz := ⟨stz0⟩
def Stz.cells (s : Stz) : List Value := [.int .i64 s.kind, encStr s.name, encStr s.tx, .slice s.da s.dn s.dc, .int .i64 s.n, .int .i64 s.po, .int .i64 s.pf, .int .i64 s.pt, .slice s.pa s.pn s.pc]
structure StzIn (w : World) (s : Stz) : Prop where
 inb : InB w s.da s.dn s.dc s.ds
 nm : s.name.length ≤ 4611686018427387900
 tm : s.tx.length ≤ 4611686018427387900
 wk : (Lit.int .i64 s.kind).wf = true
 wn : (Lit.int .i64 s.n).wf = true
 wo : (Lit.int .i64 s.po).wf = true
 wf : (Lit.int .i64 s.pf).wf = true
 wt : (Lit.int .i64 s.pt).wf = true
 pl : s.ps.length = s.pn
 pc : s.pn ≤ s.pc
 pm : s.pn ≤ 17592186044416
 pr : Ints w s.pa s.ps
 pw : ∀ i, (Lit.int .i64 (s.ps.getD i 0)).wf = true
 pz : s.pa = none → s.pn = 0 ∧ s.pc = 0
def Scz (w : World) (ao : Option Addr) (L : List Stz) : Prop :=
 ∀ i, i < L.length → ∃ b off, ao = some ⟨b, off, none⟩ ∧ (∀ j v, (L.getD i stz0).cells[j]? = some v → w.cell? ⟨b, off + 9 * i + j, none⟩ = some v) ∧ StzIn w (L.getD i stz0)
section
variable {H : Type} {enc : TypeId × Value → H} {w : World}
theorem str_small6 {y : DataW H × List MemPlace} {L : List UInt8} {P : Program} {t : TypeId} {q : List MemPlace} (hy : y = (.lit (.string (ByteArray.mk L.toArray).data.toList), q)) (h : ∀ k ∈ y.1.weights P t, k ≤ reachBytes) : L.length ≤ 4611686018427387900 := by
 subst hy
 have := h _ (by simp only [DataW.weights]; exact List.mem_singleton.2 rfl)
 have hr : reachBytes = 140737488351232 := rfl
 rw [hr] at this
 have h2 : L.length ≤ 140737488351232 := this
 omega
set_option maxRecDepth 100000 in
theorem open_step6 {n : Nat} {cs : List Value} {x : DataW H × List MemPlace} (h : DataW.trod enc Tryz.prog w 0 (fun _ => true) true n 33 cs = some x) (hw : ∀ n ∈ x.1.weights Tryz.prog 33, n ≤ reachBytes) :
  ∃ s : Stz, cs = s.cells ∧ StzIn w s := by
 obtain ⟨xs, m, rfl, hx, hl, hlen, hf⟩ := DataW.trod_struct Tryz.underlying33 h
 have hcl : Tryz.prog.cellsOf 33 = 9 := by kernel_rfl
 have hci : Tryz.prog.cellsOf 3 = 1 := by kernel_rfl
 have hcs : Tryz.prog.cellsOf 9 = 1 := by kernel_rfl
 have hcb : Tryz.prog.cellsOf 28 = 1 := by kernel_rfl
 have hcp : Tryz.prog.cellsOf 30 = 3 := by kernel_rfl
 have hck : Tryz.prog.cellsOf 31 = 1 := by kernel_rfl
 rw [hcl] at hl
 match cs, hl with
 | [a0, a1, a2, a3, a4, a5, a6, a7, a8], _ =>
 match xs, hlen with
 | [y0, y1, y2, y3, y4, y5, y6], _ =>
  have h0 := hf 0 _ rfl
  have h1 := hf 1 _ rfl
  have h2 := hf 2 _ rfl
  have h3 := hf 3 _ rfl
  have h4 := hf 4 _ rfl
  have h5 := hf 5 _ rfl
  have h6 := hf 6 _ rfl
  simp only [hci, hcs, hcb, hcp, hck, List.drop_zero, List.drop_succ_cons, List.take_succ_cons, List.take_zero, List.getElem?_cons_zero, List.getElem?_cons_succ] at h0 h1 h2 h3 h4 h5 h6
  have hwy : ∀ (t : TypeId) (y : DataW H × List MemPlace), (∀ k ∈ y.1.weights Tryz.prog t, k ∈ x.1.weights Tryz.prog 33) → ∀ k ∈ y.1.weights Tryz.prog t, k ≤ reachBytes := fun t y hy k hk => hw k (hy k hk)
  obtain ⟨k, e0, _, w0⟩ := DataW.trod_int Tryz.underlying3 h0
  obtain ⟨s1, e1, hy1, _⟩ := DataW.trod_string Tryz.underlying9 h1
  obtain ⟨s2, e2, hy2, _⟩ := DataW.trod_string Tryz.underlying9 h2
  have wt1 := hwy 9 y1 (fun j hj => by
   rw [hx]
   simp only [DataW.weights, Tryz.underlying33, DataW.weightsEach, List.mem_append, List.map_cons, List.map_nil]
   simp [DataW.weightsEach, hj])
  have wt2 := hwy 9 y2 (fun j hj => by
   rw [hx]
   simp only [DataW.weights, Tryz.underlying33, DataW.weightsEach, List.mem_append, List.map_cons, List.map_nil]
   simp [DataW.weightsEach, hj])
  obtain ⟨nn, e4, _, w4⟩ := DataW.trod_int Tryz.underlying3 h4
  obtain ⟨ao, mm, cap, xs5, e5, hin⟩ := open_bytes h3 (hwy _ y3 (fun j hj => by
   rw [hx]
   simp only [DataW.weights, Tryz.underlying33, DataW.weightsEach, List.mem_append, List.map_cons, List.map_nil]
   simp [DataW.weightsEach, hj]))
  obtain ⟨pa, pn, pc, ps, e7, q1, q2, q3, q4, q5, q6⟩ := open_picks h6 (hwy _ y6 (fun j hj => by
   rw [hx]
   simp only [DataW.weights, Tryz.underlying33, DataW.weightsEach, List.mem_append, List.map_cons, List.map_nil]
   simp [DataW.weightsEach, hj]))
  obtain ⟨zs, m', rfl, _, _, hlz, hg⟩ := DataW.trod_struct Tryz.underlying30 h5
  match zs, hlz with
  | [z0, z1, z2], _ =>
   have g0 := hg 0 _ rfl
   have g1 := hg 1 _ rfl
   have g2 := hg 2 _ rfl
   simp only [hci, List.drop_zero, List.drop_succ_cons, List.take_succ_cons, List.take_zero, List.getElem?_cons_zero, List.getElem?_cons_succ] at g0 g1 g2
   obtain ⟨p0, f0, _, v0⟩ := DataW.trod_int Tryz.underlying3 g0
   obtain ⟨p1, f1, _, v1⟩ := DataW.trod_int Tryz.underlying3 g1
   obtain ⟨p2, f2, _, v2⟩ := DataW.trod_int Tryz.underlying3 g2
   cases e0; cases e1; cases e2; cases e4; cases e5; cases e7; cases f0; cases f1; cases f2
   obtain ⟨⟨L1⟩⟩ := s1
   obtain ⟨⟨L2⟩⟩ := s2
   exact ⟨⟨k, L1, L2, ao, mm, cap, xs5, nn, p0, p1, p2, pa, pn, pc, ps⟩, rfl, ⟨hin, str_small6 hy1 wt1, str_small6 hy2 wt2, w0, w4, v0, v1, v2, q1, q2, q3, q4, q5, q6⟩⟩
set_option maxRecDepth 100000 in
theorem open_script6 {fuel : Nat} {v : Value} {x : DataW H × List MemPlace} (h : DataW.trod enc Tryz.prog w 0 (fun _ => true) true fuel 22 [v] = some x) (hw : ∀ n ∈ x.1.weights Tryz.prog 22, n ≤ reachBytes) :
  ∃ ao n cap L, v = .slice ao n cap ∧ L.length = n ∧ Scz w ao L ∧ n ≤ 9223372036854775807 := by
 rcases open_slice Tryz.underlying22 h with ⟨hcs, _⟩ | ⟨a, len, cap, m, n, D, Pl, hcs, _, hl, hm, hmm, hxx, hx⟩
 ·cases hcs
  exact ⟨none, 0, 0, [], rfl, rfl, fun i hi => by simp at hi, by omega⟩
 ·cases hcs
  have hcl : Tryz.prog.cellsOf 33 = 9 := by kernel_rfl
  simp only [if_true] at hmm
  subst hmm
  rw [hcl] at hx
  unfold maxLen at hm
  obtain ⟨b, off, spot⟩ := a
  have hwD : ∀ i, i < len → ∀ n ∈ (D i).weights Tryz.prog 33, n ≤ reachBytes := by
   intro i hi n hn
   refine hw n ?_
   rw [hxx]
   simp only [DataW.weights, Tryz.underlying22, List.mem_cons, List.mem_append]
   exact .inr (.inl (weights_all (List.mem_map_of_mem (List.mem_range.2 hi)) hn))
  have hel : ∀ i, i < len → ∃ c : Stz, spot = none ∧ (∀ j v, c.cells[j]? = some v → w.cell? ⟨b, off + 9 * i + j, none⟩ = some v) ∧ StzIn w c := by
   intro i hi
   obtain ⟨cs', h1, h2⟩ := hx i (by omega)
   obtain ⟨s, rfl, hin⟩ := open_step6 h2 (hwD i hi)
   obtain ⟨_, _, h3⟩ := World.cells?_some h1
   have hsp : spot = none := by
    obtain ⟨cs0, g1, g2⟩ := hx 0 (by omega)
    obtain ⟨s0, rfl, _⟩ := open_step6 g2 (hwD 0 (by omega))
    obtain ⟨_, _, g3⟩ := World.cells?_some g1
    have h5 := g3 0 (by omega)
    rw [show (((⟨b, off, spot⟩ : Addr).add (0 * 9)).add 0) = ⟨b, off, spot⟩ by simp [Addr.add]] at h5
    exact World.cell?_spot (a := ⟨b, off, spot⟩) h5
   subst hsp
   refine ⟨s, rfl, fun j v hv => ?_, hin⟩
   have hj : j < 9 := by have := (List.getElem?_eq_some_iff.1 hv).1; simpa [Stz.cells] using this
   have g := h3 j hj
   rw [Addr.add_mid, Addr.add_mid, Nat.mul_comm i 9] at g
   rw [g]
   exact hv
  obtain ⟨f, hf⟩ := choose_lt (α := Stz) hel
  refine ⟨_, len, _, (List.range len).map f, rfl, by simp, fun i hi => ?_, by omega⟩
  have hi' : i < len := by simpa using hi
  obtain ⟨hsp, hc, hin⟩ := hf i hi'
  subst hsp
  have e : ((List.range len).map f).getD i stz0 = f i := by simp [hi']
  rw [e]
  exact ⟨b, off, rfl, hc, hin⟩
end
theorem call6 {X : Nat → Prop} {w : World} {P p q : Nat} {S : Ds} {N : Nat} (h : Pz X w P p q S N S N) (hsm : Sm S) (s : Stz) (hin : StzIn w s) (hda : s.ds ≠ [] → ∀ a, s.da = some a → X a.block) (hpa : s.ps ≠ [] → ∀ a, s.pa = some a → X a.block) (hN : N + 1050000 ≤ 80000000) (hg : Gl w) (hgx : X 0) (hk : 1 ≤ s.kind ∧ s.kind ≤ 4) :
  Calls Tryz.prog 7 #[.pointer (some ⟨P, 0, none⟩), .agg #[.int .i64 s.kind, encStr s.name, encStr s.tx, .slice s.da s.dn s.dc, .int .i64 s.n, .int .i64 s.po, .int .i64 s.pf, .int .i64 s.pt, .slice s.pa s.pn s.pc]] w fun e w' => e = .returned (.bool true) ∧ (∃ D, Sm D ∧ Pz X w' P p q D (N + 1050000) D (N + 1050000)) ∧ Keep (fun b => ¬ X b) w w' := by
 have hnm := hin.nm
 have hmx := hin.inb.max
 have hle := hin.inb.le
 by_cases hk1 : s.kind = 1
 ·rw [hk1]
  refine (ca_put h s.name s.tx s.da s.dn s.dc s.n s.po s.pf s.pt s.pa s.pn s.pc s.ds hg hgx hnm (by omega) hin.inb.len hin.inb.sl (fun e => ⟨by have := (hin.inb.nil e).1; have := hin.inb.len; simp_all, (hin.inb.nil e).2⟩) hda (by omega) (by omega)).mono ?_
  rintro e w' ⟨rfl, hq, hk⟩
  exact ⟨rfl, ⟨_, hsm.put _ _, hq.mono (by omega) (by omega)⟩, hk⟩
 by_cases hk2 : s.kind = 2
 ·rw [hk2]
  refine (ca_get h s.name s.tx s.da s.dn s.dc s.n s.po s.pf s.pt s.pa s.pn s.pc hg hgx hnm (by omega) (by omega)).mono ?_
  rintro e w' ⟨rfl, hq, hk⟩
  exact ⟨rfl, ⟨_, hsm.getD _, hq.mono (by omega) (by omega)⟩, hk⟩
 by_cases hk3 : s.kind = 3
 ·rw [hk3]
  refine (ca_drop h s.name s.tx s.da s.dn s.dc s.n s.po s.pf s.pt s.pa s.pn s.pc hg hgx hnm (by omega) (by omega)).mono ?_
  rintro e w' ⟨rfl, hq, hk⟩
  exact ⟨rfl, ⟨_, hsm.drop _, hq.mono (by omega) (by omega)⟩, hk⟩
 have hls := hsm.list s.name
 by_cases hon : S.on = true
 ·have hk0 : ¬ s.kind = 1 ∧ ¬ s.kind = 2 ∧ ¬ s.kind = 3 := ⟨hk1, hk2, hk3⟩
  refine (ca_clean h s.name s.tx s.da s.dn s.dc s.n s.po s.pf s.pt s.pa s.pn s.pc hg hgx hnm s.kind hk0 hon (by omega) (by omega)).mono ?_
  rintro e w' ⟨rfl, hq, hk⟩
  exact ⟨rfl, ⟨_, hsm.rclean _, hq.mono (by omega) (by omega)⟩, hk⟩
 ·have hk0 : ¬ s.kind = 1 ∧ ¬ s.kind = 2 ∧ ¬ s.kind = 3 := ⟨hk1, hk2, hk3⟩
  have hon' : S.on = false := by simpa using hon
  refine (ca_cleanz h s.name s.tx s.da s.dn s.dc s.n s.po s.pf s.pt s.pa s.pn s.pc hg hgx hnm s.kind hk0 hon' (by omega) (by omega)).mono ?_
  rintro e w' ⟨rfl, hq, hk⟩
  exact ⟨rfl, ⟨_, hsm.rclean _, hq.mono (by omega) (by omega)⟩, hk⟩
theorem below6 {X : Nat → Prop} {w : World} {P p q : Nat} {S : Ds} {N : Nat} (h : Pz X w P p q S N S N) (hsm : Sm S) (s : Stz) (hin : StzIn w s) (hda : s.ds ≠ [] → ∀ a, s.da = some a → X a.block) (hpa : s.ps ≠ [] → ∀ a, s.pa = some a → X a.block) (hN : N + 1050000 ≤ 80000000) (hk : ¬ (1 ≤ s.kind ∧ s.kind ≤ 4)) :
  Calls Tryz.prog 8 #[.pointer (some ⟨P, 0, none⟩), .agg #[.int .i64 s.kind, encStr s.name, encStr s.tx, .slice s.da s.dn s.dc, .int .i64 s.n, .int .i64 s.po, .int .i64 s.pf, .int .i64 s.pt, .slice s.pa s.pn s.pc]] w fun e w' => e = .returned (.bool true) ∧ (∃ D, Sm D ∧ Pz X w' P p q D (N + 1050000) D (N + 1050000)) ∧ Keep (fun b => ¬ X b) w w' := by
 have hnm := hin.nm
 have htm := hin.tm
 have hmx := hin.inb.max
 have hle := hin.inb.le
 by_cases hk5 : s.kind = 5
 ·rw [hk5]
  refine (be_create h s.name s.tx s.da s.dn s.dc s.ds s.n s.po s.pf s.pt s.pa s.pn s.pc (by omega) (by omega)  (by omega) (by omega)).mono ?_
  rintro e w' ⟨rfl, hq, hk⟩
  exact ⟨rfl, ⟨_, hsm.create _, hq.mono (by omega) (by omega)⟩, hk⟩
 by_cases hk6 : s.kind = 6
 ·rw [hk6]
  refine (be_append h s.name s.tx s.da s.dn s.dc s.ds s.n s.po s.pf s.pt s.pa s.pn s.pc (by omega) (by omega) (by omega) hin.inb.len hin.inb.sl (fun e => ⟨by have := (hin.inb.nil e).1; have := hin.inb.len; simp_all, (hin.inb.nil e).2⟩) hda (by omega) (by omega)).mono ?_
  rintro e w' ⟨rfl, hq, hk⟩
  exact ⟨rfl, ⟨_, hsm.append _ _, hq.mono (by omega) (by omega)⟩, hk⟩
 by_cases hk7 : s.kind = 7
 ·rw [hk7]
  refine (be_truncate h s.name s.tx s.da s.dn s.dc s.ds s.n s.po s.pf s.pt s.pa s.pn s.pc (by omega) (by omega) (by omega) (by omega)).mono ?_
  rintro e w' ⟨rfl, hq, hk⟩
  exact ⟨rfl, ⟨_, hsm.truncate _ _, hq.mono (by omega) (by omega)⟩, hk⟩
 by_cases hk8 : s.kind = 8
 ·rw [hk8]
  refine (be_rename h s.name s.tx s.da s.dn s.dc s.ds s.n s.po s.pf s.pt s.pa s.pn s.pc (by omega) (by omega)  (by omega) (by omega)).mono ?_
  rintro e w' ⟨rfl, hq, hk⟩
  exact ⟨rfl, ⟨_, hsm.rename _ _, hq.mono (by omega) (by omega)⟩, hk⟩
 by_cases hk9 : s.kind = 9
 ·rw [hk9]
  refine (be_remove h s.name s.tx s.da s.dn s.dc s.ds s.n s.po s.pf s.pt s.pa s.pn s.pc (by omega) (by omega)  (by omega) (by omega)).mono ?_
  rintro e w' ⟨rfl, hq, hk⟩
  exact ⟨rfl, ⟨_, hsm.remove _, hq.mono (by omega) (by omega)⟩, hk⟩
 by_cases hk10 : s.kind = 10
 ·rw [hk10]
  refine (be_sync h s.name s.tx s.da s.dn s.dc s.ds s.n s.po s.pf s.pt s.pa s.pn s.pc (by omega) (by omega)  (by omega) (by omega)).mono ?_
  rintro e w' ⟨rfl, hq, hk⟩
  exact ⟨rfl, ⟨_, hsm.sync _, hq.mono (by omega) (by omega)⟩, hk⟩
 by_cases hk11 : s.kind = 11
 ·rw [hk11]
  refine (be_syncNames h s.name s.tx s.da s.dn s.dc s.ds s.n s.po s.pf s.pt s.pa s.pn s.pc (by omega) (by omega)  (by omega) (by omega)).mono ?_
  rintro e w' ⟨rfl, hq, hk⟩
  exact ⟨rfl, ⟨_, hsm.syncNames, hq.mono (by omega) (by omega)⟩, hk⟩
 by_cases hk12 : s.kind = 12
 ·rw [hk12]
  refine (be_plan h s.name s.tx s.da s.dn s.dc s.n s.po s.pf s.pt s.pa s.pn s.pc ⟨hin.wo, hin.wf, hin.wt⟩ (by omega) (by omega)).mono ?_
  rintro e w' ⟨rfl, hq, hk⟩
  exact ⟨rfl, ⟨_, hsm.setPlan _ _ _, hq.mono (by omega) (by omega)⟩, hk⟩
 by_cases hk13 : s.kind = 13
 ·rw [hk13]
  refine (be_crash h s.name s.tx s.da s.dn s.dc s.n s.po s.pf s.pt s.pa s.pn s.pc s.ps hin.pl hin.pr hin.pw hin.pm hpa (by omega) (by omega)).mono ?_
  rintro e w' ⟨rfl, hq, hk⟩
  exact ⟨rfl, ⟨_, hsm.crash _, hq.mono (by omega) (by omega)⟩, hk⟩
 by_cases hk14 : s.kind = 14
 ·rw [hk14]
  refine (be_many h hsm s.name s.tx s.da s.dn s.dc s.n s.po s.pf s.pt s.pa s.pn s.pc hin.wn (by omega) (by omega)).mono ?_
  rintro e w' ⟨rfl, ⟨D, hD, hq⟩, hk⟩
  exact ⟨rfl, ⟨D, hD, hq.mono (by omega) (by omega)⟩, hk⟩
 have hk0 : s.kind < 5 ∨ 14 < s.kind := by omega
 refine (be_none h s.name s.tx s.da s.dn s.dc s.n s.po s.pf s.pt s.pa s.pn s.pc s.kind hk0 (by omega) (by omega)).mono ?_
 rintro e w' ⟨rfl, hq, hk⟩
 exact ⟨rfl, ⟨_, hsm, hq.mono (by omega) (by omega)⟩, hk⟩
end

section
open Go.RowKit Go.Deep Dsk
set_option linter.unusedVariables false
set_option linter.unusedSimpArgs false
theorem Tryz.infoStz : (Tryz.prog.info? 33).map (·.size) = some 9 := by kernel_rfl
theorem stz_all (a : Int) (x y : ByteArray) (o : Option Addr) (m c : Nat) (b d e f : Int) (u : Option Addr) (v z : Nat) : (#[.int .i64 a, .string x, .string y, .slice o m c, .int .i64 b, .int .i64 d, .int .i64 e, .int .i64 f, .slice u v z] : Array Value).all (·.oneCell') = true := by kernel_rfl
theorem heap_newz (w : World) (o : Obj) : (w.alloc o).heap[w.heap.size]? = some o := (MapKept.heap_alloc w o).1
theorem kept_setRowz {l : List Nat} {a w : World} (h : Kept l a w) {g : Nat} (hp : g < a.heap.size → g ∈ l) (cs : Array Value) : Kept l a (w.setRow g cs) :=
 h.trans (l2 := [g]) ⟨rfl, rfl, rfl, by simp, fun k _ hn => setRow_other w g k _ (by simpa using hn)⟩ (by simpa using hp)
theorem Scz.open {w : World} {ao : Option Addr} {L : List Stz} (h : Scz w ao L) {k : Nat} (hk : k < L.length) : ∃ b off, ao = some ⟨b, off, none⟩ ∧ b < w.heap.size ∧ (∀ j v, (L.getD k stz0).cells[j]? = some v → w.cell? ⟨b, off + 9 * k + j, none⟩ = some v) ∧ StzIn w (L.getD k stz0) := by
 obtain ⟨b, off, e, hc, hin⟩ := h k hk
 exact ⟨b, off, e, World.block_lt_of_cell? _ _ (hc 0 _ rfl), hc, hin⟩
theorem sl_ltz {w : World} {ao : Option Addr} {xs : By} (h : Sl w ao xs) : xs ≠ [] → ∀ a, ao = some a → a.block < w.heap.size := fun hn a ha => by
 obtain ⟨b, off, e, hc⟩ := h 0 (List.length_pos_iff.2 hn)
 rw [e] at ha
 cases ha
 exact World.block_lt_of_cell? _ _ hc
theorem ints_ltz {w : World} {po : Option Addr} {ps : List Int} (h : Ints w po ps) : ps ≠ [] → ∀ a, po = some a → a.block < w.heap.size := by
 intro hn a ha
 obtain ⟨b, off, e, hc⟩ := h 0 (List.length_pos_iff.2 hn)
 rw [ha] at e
 injection e with e
 subst e
 exact World.block_lt_of_cell? _ _ hc
theorem StzIn.keep {w w' : World} {s : Stz} (h : StzIn w s) (hk : Kept [] w w') : StzIn w' s :=
 ⟨⟨h.inb.len, h.inb.le, h.inb.max, h.inb.sl.kept hk (by simp), h.inb.nil, h.inb.spot⟩, h.nm, h.tm, h.wk, h.wn, h.wo, h.wf, h.wt, h.pl, h.pc, h.pm, h.pr.keepz (Keep.ofNone (F := fun _ => False) hk) (fun _ _ _ h => h), h.pw, h.pz⟩
theorem keep_kept9 {w0 w w' : World} (h0 : Kept [] w0 w) (h : Keep (fun b => ¬ b < w0.heap.size) w w') : Kept (List.range' w0.heap.size (w.heap.size - w0.heap.size)) w w' := ⟨h.os, h.tape, h.output, h.size, fun k hk hn => h.block k hk (fun hx => hn (by rw [List.mem_range'_1]; omega))⟩
set_option maxHeartbeats 6400000 in
set_option maxRecDepth 100000 in
theorem plays6_walk (room : Int) (ao : Option Addr) (n cap : Nat) (L : List Stz) (w : World) (hg : Gl w) (hrw : (Lit.int .i64 room).wf = true) (hl : L.length = n) (hs : Scz w ao L) (hn : n ≤ 9223372036854775807) :
  Calls Tryz.prog 3 #[.int .i64 room, .slice ao n cap] w fun e w' => e = .returned (.bool true) ∧ Below w.heap.size w w' := by
 have hrd := round6_ok room 4000 w hrw (by decide) (by decide)
 have HS := hide hs
 have HL := hide hl
 have HG := hide hg
 have HEL : Hid (0 < w.heap.size) := hide (World.block_lt_of_cell? _ _ hg)
 clear hs hl hg
 go_enter Tryz.func3, Tryz.ntmps3
 go_upto_region 2 with (first
  | (go_at_call 5; refine hrd.mono ?_; rintro e w' ⟨r, hr, rfl, hww⟩; obtain rfl := hww.symm; have hmd := made6_ok (1 + (r : Int)) w (by simp [Lit.wf, IntKind.min, IntKind.max, IntKind.bits, IntKind.signed]; omega) (by unfold roomE; rw [if_neg (by omega)]); clear hrd hrw)
  | (go_at_call 4; refine hmd.mono ?_; rintro e w1 ⟨P, p, q, rfl, hk1, hPl, hP⟩; have HK1 := hide hk1; have HPl := hide hPl; have HP := hide (hP (fun b => b < w.heap.size) (fun _ h => h)); clear hmd hk1 hPl hP))
 have hkn := known6_ok w1 (HG.out.kept HK1.out (by simp))
 go_upto_region 4 with (go_at_call 6; refine hkn.mono ?_; rintro e w2 ⟨rfl, hk2⟩; have HP2 := hide (HP.out.kept hk2); have HK2 := hide (HK1.out.trans hk2 (by simp)); clear hkn hk2)
 have HSM : Hid (Sm (Ds.fresh (1 + (r : Int)).toNat)) := hide (Sm.fresh HP2.out.tw.wf1)
 clear HP HK1 hr
 generalize Ds.fresh (1 + (r : Int)).toNat = S0 at HP2 HSM
 go_wp2
 go_loopw [7] (fun i wr => ∃ (k : Nat) (D : Ds), k ≤ n ∧ k ≤ 60 ∧ i = .int .i64 k ∧ Hid (Sm D ∧ Pz (fun b => b < w.heap.size) wr P p q D (k * 1050000) D (k * 1050000) ∧ Kept [] w wr)) (fun i wr => n - (intOf i).toNat)
 case atStart => exact ⟨0, S0, Nat.zero_le _, Nat.zero_le _, rfl, hide ⟨HSM.out, by simpa using HP2.out, HK2.out⟩⟩
 case round =>
  clear HP2 HK2 HSM
  obtain ⟨k, D, hk, hk6, rfl, HI⟩ := hrel
  by_cases hlt : k < n
  ·by_cases h60 : k < 60
   ·have hkL : k < L.length := by rw [HL.out]; exact hlt
    obtain ⟨b, off, rfl, hbl, hc, hin⟩ := HS.out.open hkL
    have HIN := hide (hin.keep HI.out.2.2)
    have HDA := hide (sl_ltz hin.inb.sl)
    have HPA := hide (ints_ltz hin.pr)
    have hrg : wr.rangeAt b (off + k * 9) (L.getD k stz0).cells := fun j v hv => by rw [Nat.mul_comm k 9]; exact HI.out.2.2.cellOf (hc j v hv) (by simp)
    clear hc hin hbl hkL
    generalize L.getD k stz0 = s at *
    simp only [Stz.cells] at hrg
    have hq1 : (k : Int) < (n : Int) := by omega
    have hq2 : (k : Int) < 60 := by omega
    go_upto_region 8 with (first
     | refine wpList_load_mid rfl 33 (.tmp 34) rfl b (off + k * 9) rfl [.int .i64 s.kind, encStr s.name, encStr s.tx, .slice s.da s.dn s.dc, .int .i64 s.n, .int .i64 s.po, .int .i64 s.pf, .int .i64 s.pt, .slice s.pa s.pn s.pc] _ hrg Tryz.underlying33 rfl Tryz.infoStz ?_
     | refine wpList_store_rowTo rfl 33 (.tmp 8) (.tmp 35) rfl rfl wr.heap.size #[.int .i64 s.kind, encStr s.name, encStr s.tx, .slice s.da s.dn s.dc, .int .i64 s.n, .int .i64 s.po, .int .i64 s.pf, .int .i64 s.pt, .slice s.pa s.pn s.pc] rfl rfl 33 #[.int .i64 0, .string ⟨#[]⟩, .string ⟨#[]⟩, .slice none 0 0, .int .i64 0, .int .i64 0, .int .i64 0, .int .i64 0, .slice none 0 0] (heap_newz _ _) Tryz.infoStz rfl (stz_all _ _ _ _ _ _ _ _ _ _ _ _ _) ?_)
    have hk7 : Kept [] wr ((wr.alloc (.cells #[.int .i64 0, .string ⟨#[]⟩, .string ⟨#[]⟩, .slice none 0 0, .int .i64 0, .int .i64 0, .int .i64 0, .int .i64 0, .slice none 0 0] 33)).setRow wr.heap.size #[.int .i64 s.kind, encStr s.name, encStr s.tx, .slice s.da s.dn s.dc, .int .i64 s.n, .int .i64 s.po, .int .i64 s.pf, .int .i64 s.pt, .slice s.pa s.pn s.pc]) := kept_setRowz ((Kept.refl [] wr).alloc _) (by intro h; omega) _
    have hr7 : ((wr.alloc (.cells #[.int .i64 0, .string ⟨#[]⟩, .string ⟨#[]⟩, .slice none 0 0, .int .i64 0, .int .i64 0, .int .i64 0, .int .i64 0, .slice none 0 0] 33)).setRow wr.heap.size #[.int .i64 s.kind, encStr s.name, encStr s.tx, .slice s.da s.dn s.dc, .int .i64 s.n, .int .i64 s.po, .int .i64 s.pf, .int .i64 s.pt, .slice s.pa s.pn s.pc]).heap[wr.heap.size]? = some (.cells #[.int .i64 s.kind, encStr s.name, encStr s.tx, .slice s.da s.dn s.dc, .int .i64 s.n, .int .i64 s.po, .int .i64 s.pf, .int .i64 s.pt, .slice s.pa s.pn s.pc] 33 (0, 0)) := setRow_heap _ _ _ _ _ _ (heap_newz _ _)
    generalize (wr.alloc (.cells #[.int .i64 0, .string ⟨#[]⟩, .string ⟨#[]⟩, .slice none 0 0, .int .i64 0, .int .i64 0, .int .i64 0, .int .i64 0, .slice none 0 0] 33)).setRow wr.heap.size #[.int .i64 s.kind, encStr s.name, encStr s.tx, .slice s.da s.dn s.dc, .int .i64 s.n, .int .i64 s.po, .int .i64 s.pf, .int .i64 s.pt, .slice s.pa s.pn s.pc] = w7 at hk7 hr7 ⊢
    generalize wr.heap.size = gX at hr7 ⊢
    have HI7 : Hid (Sm D ∧ Pz (fun b => b < w.heap.size) w7 P p q D (k * 1050000) D (k * 1050000) ∧ Kept [] w w7) := hide ⟨HI.out.1, HI.out.2.1.kept hk7, HI.out.2.2.trans hk7 (by simp)⟩
    have HIN7 := hide (HIN.out.keep hk7)
    have HG7 : Hid (Gl w7) := hide (HG.out.kept HI7.out.2.2 (by simp))
    have hrg7 : w7.rangeAt gX 0 [.int .i64 s.kind, encStr s.name, encStr s.tx, .slice s.da s.dn s.dc, .int .i64 s.n, .int .i64 s.po, .int .i64 s.pf, .int .i64 s.pt, .slice s.pa s.pn s.pc] := fun j v hv => by rw [Nat.zero_add, cell_of_row _ _ _ _ _ _ hr7]; simpa using hv
    have c0 : w7.cell? ⟨gX, 0, none⟩ = some (.int .i64 s.kind) := by rw [cell_of_row _ _ _ _ _ _ hr7]; rfl
    clear hk7 hr7 HI HIN hrg
    have HNK : Hid (k * 1050000 + 1050000 ≤ 63000000) := hide (by omega)
    by_cases hkd : 1 ≤ s.kind ∧ s.kind ≤ 4
    ·have hb1 : decide (1 ≤ s.kind) = true := by simpa using hkd.1
     have hb2 : decide (s.kind ≤ 4) = true := by simpa using hkd.2
     have hcl := call6 HI7.out.2.1 HI7.out.1 s HIN7.out HDA.out HPA.out (by have := HNK.out; omega) HG7.out HEL.out hkd
     clear hkd
     go_upto_region 11 with (first
      | refine wpList_load_mid rfl 33 (.tmp 8) rfl gX 0 rfl [.int .i64 s.kind, encStr s.name, encStr s.tx, .slice s.da s.dn s.dc, .int .i64 s.n, .int .i64 s.po, .int .i64 s.pf, .int .i64 s.pt, .slice s.pa s.pn s.pc] _ hrg7 Tryz.underlying33 rfl Tryz.infoStz ?_
      | (go_at_call 7; refine hcl.mono ?_; rintro e w9 ⟨rfl, ⟨D9, hD9, hP9⟩, hk9⟩; have H9 := hide (And.intro hD9 (And.intro hP9 (HI7.out.2.2.trans (keep_kept9 HI7.out.2.2 hk9) (fun i hi hlt => by rw [List.mem_range'_1] at hi; omega)))); clear hcl hD9 hP9 hk9))
     clear HI7 HIN7 HG7 hrg7 c0 HDA HPA
     have hsd := stands6_ok H9.out.2.1 (by have := HNK.out; omega) (by have := HNK.out; omega)
     go_wp2_with (go_at_call 9; refine hsd.mono ?_; rintro e w10 ⟨rfl, hk10⟩; have H10 := hide (And.intro H9.out.1 (And.intro (H9.out.2.1.kept hk10) (H9.out.2.2.trans hk10 (by simp)))); clear hsd hk10)
     go_roundw
     case rel => exact ⟨k + 1, D9, by omega, by omega, by go_num, by rw [Nat.succ_mul]; exact H10⟩
     case measure => simp [intOf]; omega
    ·by_cases hb1 : 1 ≤ s.kind
     ·have hb1' : decide (1 ≤ s.kind) = true := by simpa using hb1
      have hb2 : decide (s.kind ≤ 4) = false := by simp; omega
      have hcl := below6 HI7.out.2.1 HI7.out.1 s HIN7.out HDA.out HPA.out (by have := HNK.out; omega) hkd
      clear hkd hb1
      go_upto_region 11 with (first
       | refine wpList_load_mid rfl 33 (.tmp 8) rfl gX 0 rfl [.int .i64 s.kind, encStr s.name, encStr s.tx, .slice s.da s.dn s.dc, .int .i64 s.n, .int .i64 s.po, .int .i64 s.pf, .int .i64 s.pt, .slice s.pa s.pn s.pc] _ hrg7 Tryz.underlying33 rfl Tryz.infoStz ?_
       | (go_at_call 8; refine hcl.mono ?_; rintro e w9 ⟨rfl, ⟨D9, hD9, hP9⟩, hk9⟩; have H9 := hide (And.intro hD9 (And.intro hP9 (HI7.out.2.2.trans (keep_kept9 HI7.out.2.2 hk9) (fun i hi hlt => by rw [List.mem_range'_1] at hi; omega)))); clear hcl hD9 hP9 hk9))
      clear HI7 HIN7 HG7 hrg7 c0 HDA HPA
      have hsd := stands6_ok H9.out.2.1 (by have := HNK.out; omega) (by have := HNK.out; omega)
      go_wp2_with (go_at_call 9; refine hsd.mono ?_; rintro e w10 ⟨rfl, hk10⟩; have H10 := hide (And.intro H9.out.1 (And.intro (H9.out.2.1.kept hk10) (H9.out.2.2.trans hk10 (by simp)))); clear hsd hk10)
      go_roundw
      case rel => exact ⟨k + 1, D9, by omega, by omega, by go_num, by rw [Nat.succ_mul]; exact H10⟩
      case measure => simp [intOf]; omega
     ·have hb1' : decide (1 ≤ s.kind) = false := by simpa using hb1
      have hcl := below6 HI7.out.2.1 HI7.out.1 s HIN7.out HDA.out HPA.out (by have := HNK.out; omega) hkd
      clear hkd hb1
      go_upto_region 11 with (first
       | refine wpList_load_mid rfl 33 (.tmp 8) rfl gX 0 rfl [.int .i64 s.kind, encStr s.name, encStr s.tx, .slice s.da s.dn s.dc, .int .i64 s.n, .int .i64 s.po, .int .i64 s.pf, .int .i64 s.pt, .slice s.pa s.pn s.pc] _ hrg7 Tryz.underlying33 rfl Tryz.infoStz ?_
       | (go_at_call 8; refine hcl.mono ?_; rintro e w9 ⟨rfl, ⟨D9, hD9, hP9⟩, hk9⟩; have H9 := hide (And.intro hD9 (And.intro hP9 (HI7.out.2.2.trans (keep_kept9 HI7.out.2.2 hk9) (fun i hi hlt => by rw [List.mem_range'_1] at hi; omega)))); clear hcl hD9 hP9 hk9))
      clear HI7 HIN7 HG7 hrg7 c0 HDA HPA
      have hsd := stands6_ok H9.out.2.1 (by have := HNK.out; omega) (by have := HNK.out; omega)
      go_wp2_with (go_at_call 9; refine hsd.mono ?_; rintro e w10 ⟨rfl, hk10⟩; have H10 := hide (And.intro H9.out.1 (And.intro (H9.out.2.1.kept hk10) (H9.out.2.2.trans hk10 (by simp)))); clear hsd hk10)
      go_roundw
      case rel => exact ⟨k + 1, D9, by omega, by omega, by go_num, by rw [Nat.succ_mul]; exact H10⟩
      case measure => simp [intOf]; omega
   ·have hq1 : (k : Int) < (n : Int) := by omega
    have hq2 : ¬ (k : Int) < 60 := by omega
    go_wp2
    go_ret
    exact ⟨rfl, HI.out.2.2.below (Nat.le_refl _) (by simp)⟩
  ·have hq1 : ¬ (k : Int) < (n : Int) := by omega
   go_wp2
   go_ret
   exact ⟨rfl, HI.out.2.2.below (Nat.le_refl _) (by simp)⟩
end

end Go.Proofs.YtodihkdmneihiaaGreatDoor
