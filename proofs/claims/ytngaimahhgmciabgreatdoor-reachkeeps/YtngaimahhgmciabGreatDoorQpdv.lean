/-
  A Map's blocks; contract: freightlaw9.known. (Written by tools/qpd.py.)
-/
import Derived.Test.YtngaimahhgmciabGreatDoorQpcv
import Derived.Test.YtngaimahhgmciabGreatDoorQ9xv
namespace Go.Proofs.YtngaimahhgmciabGreatDoor
open Go.RowKit Go.Lib Go.Sort
set_option linter.unusedVariables false
set_option linter.unusedSimpArgs false

/-- A Map that lies in the blocks from lo to hi. -/
structure Ms9 (lo hi b : Nat) (M : List (List UInt8 × List UInt8)) (V : List Value) (w : World) : Prop where
  im : Im w b (M.map (·.1)) V
  own : ∀ j, j < M.length → OwnB w lo (V.getD j unitv) (M.getD j ([], [])).2
  len : ∀ p ∈ M, p.2.length ≤ 140737488355328
  lob : lo ≤ b
  hib : b < hi
  hiv : ∀ j, j < M.length → ∀ g, (V.getD j unitv).ownBlock = some g → g < hi
theorem Mw9.ms {w1 w : World} {b : Nat} {M : List (List UInt8 × List UInt8)} {V : List Value} (h : Mw9 w1 w b M V) : Ms9 w1.heap.size w.heap.size b M V w :=
  ⟨h.im, h.own, h.len, h.far, h.im.lt, fun j hj g hg => ((h.own j hj).far g hg).2⟩
/-- The Map as what stands. -/
def Mst (lo hi b : Nat) (M : List (List UInt8 × List UInt8)) (w : World) : Prop := ∃ V, Ms9 lo hi b M V w
def Rng (lo hi : Nat) (k : Nat) : Prop := lo ≤ k ∧ k < hi
theorem ms_std {lo hi b : Nat} {M : List (List UInt8 × List UInt8)} (hgt : 4 ≤ lo) : Std (.map (some b)) M (Rng lo hi) (Mst lo hi b M) where
  isM := ⟨_, rfl⟩
  keep := by
    rintro w w' ⟨V, h⟩ hk
    refine ⟨V, h.im.same (hk b ⟨h.lob, h.hib⟩), fun j hj => ?_, h.len, h.lob, h.hib, h.hiv⟩
    have h1 := h.own j hj
    refine ⟨h1.1, ?_⟩
    rcases h1.2 with g1 | ⟨g, cap, cur, g1, g2, g3, g4⟩
    · exact .inl g1
    · exact .inr ⟨g, cap, cur, g1, g2, by rw [hk g ⟨g2, h.hiv j hj g (by rw [g1]; rfl)⟩]; exact g3, g4⟩
  at_ := by
    rintro w ⟨V, h⟩
    refine .inr ⟨b, V, rfl, h.im, fun j hj => vl9_own (h.own j hj) (h.len _ ?_)⟩
    rw [List.getD_eq_getElem?_getD, List.getElem?_eq_getElem hj]
    exact List.getElem_mem _
  off := fun k hk h => by
    have := h.1
    omega
theorem Mst.kept {lo hi b : Nat} {M : List (List UInt8 × List UInt8)} {w w' : World} (h : Mst lo hi b M w) (hk : Kept [] w w') : Mst lo hi b M w' := by
  obtain ⟨V, h⟩ := h
  exact ⟨V, h.im.kept hk (by simp), fun j hj => (h.own j hj).kept hk (fun _ _ => by simp), h.len, h.lob, h.hib, h.hiv⟩
theorem Kp.kept {o : Nat → Prop} {w w' w'' : World} (h : Kp o w w') (hk : Kept [] w' w'') : Kp o w w'' := h.trans (Kp.ofKept (o := fun _ => False) hk (by simp)) (fun _ h => h.elim)
/-- What lies in no block of o stands. -/
theorem Kp.fault {o : Nat → Prop} {w w' : World} (h : Kp o w w') {eb : Nat} {op i : List UInt8} {u : Value} (hf : FltAt w eb op i u) (hn : ¬ o eb) : FltAt w' eb op i u := by
  unfold FltAt at *
  rw [h.block eb (Array.getElem?_eq_some_iff.1 hf).1 hn]
  exact hf
theorem OwnI.kp9 {o : Nat → Prop} {w w' : World} {base : Nat} {v : Value} {C : List (List UInt8)} (h : OwnI w base v C) (hk : Kp o w w') (hn : ∀ g, v.ownBlock = some g → ¬ o g) : OwnI w' base v C := by
  refine ⟨⟨h.1.1, ?_⟩, h.2⟩
  rcases h.1.2 with h1 | ⟨g, cap, cur, hv, hb, hg, rest⟩
  · exact .inl h1
  · exact .inr ⟨g, cap, cur, hv, hb, by rw [hk.block g (Array.getElem?_eq_some_iff.1 hg).1 (hn g (by rw [hv]; rfl))]; exact hg, rest⟩
theorem own_off9 {w w0 : World} {lo hi : Nat} {v : Value} {C : List (List UInt8)} (h : OwnI w w0.heap.size v C) (hh : hi ≤ w0.heap.size) : ∀ g, v.ownBlock = some g → ¬ Rng lo hi g := fun g hg hr => by
  have := own_far9 h.1 g hg
  have := hr.2
  omega

def i1 : List UInt8 := 1 :: List.replicate 31 0
def i2 : List UInt8 := 2 :: List.replicate 31 0
def ek : Ent := ⟨[120], 1, i2⟩
def tb : List UInt8 := [84, 1, 1, 1, 120, 2] ++ List.replicate 31 0
theorem ek_ok : EntOk ek := ⟨rfl, by decide, by decide⟩
theorem ek_tree : Tn.isTree [ek] = true := by kernel_rfl
theorem ek_enc : Tn.encd [ek] = tb := by kernel_rfl
theorem tb_parse : Tn.parse tb = some [ek] := by kernel_rfl
theorem nil_parse : Tn.parse [] = none := by kernel_rfl
theorem canon12 : canon [i1, i2] = [i1, i2] := by kernel_rfl
theorem i12 : i1 ≠ i2 := by decide
/-- What known's Map says. -/
def fK (q : List UInt8) : An := if q = i1 then .data tb else if q = i2 then .data [] else .lack
theorem fK_nofail (i : List UInt8) : fK i ≠ .fail := by
  unfold fK
  split
  · simp
  · split <;> simp
theorem mpf12 : mpf [(i1, tb), (i2, [])] = fK := by
  funext q
  unfold fK mpf
  by_cases h1 : q = i1
  · subst h1; simp
  · have e1 : (i1 == q) = false := by simpa using fun e : i1 = q => h1 e.symm
    rw [if_neg h1, List.find?_cons, e1]
    by_cases h2 : q = i2
    · subst h2; simp
    · have e2 : (i2 == q) = false := by simpa using fun e : i2 = q => h2 e.symm
      rw [if_neg h2]
      simp [List.find?_cons, e2]
theorem mpf21 : mpf [(i2, []), (i1, tb)] = fK := by
  funext q
  unfold fK mpf
  by_cases h1 : q = i1
  · subst h1
    have e : (i2 == i1) = false := by decide
    simp [List.find?_cons, e]
  · have e1 : (i1 == q) = false := by simpa using fun e : i1 = q => h1 e.symm
    rw [if_neg h1]
    by_cases h2 : q = i2
    · subst h2; simp
    · have e2 : (i2 == q) = false := by simpa using fun e : i2 = q => h2 e.symm
      rw [if_neg h2]
      simp [List.find?_cons, e1, e2]
theorem fK1 : fldsF fK i1 = [] ∧ idsF fK i1 = [i2] ∧ ¬ badF fK i1 := by
  have e : fK i1 = .data tb := if_pos rfl
  refine ⟨?_, ?_, ?_⟩
  · unfold fldsF; rw [e]; simp only [tb_parse]; rfl
  · unfold idsF; rw [e]; simp only [tb_parse]; rfl
  · unfold badF; rw [e]; simp only [tb_parse]; simp
theorem fK2 : fldsF fK i2 = [] ∧ idsF fK i2 = [] ∧ badF fK i2 := by
  have e : fK i2 = .data [] := by unfold fK; rw [if_neg (fun h => i12 h.symm), if_pos rfl]
  refine ⟨?_, ?_, ?_⟩
  · unfold fldsF; rw [e]; simp only [nil_parse]
  · unfold idsF; rw [e]; simp only [nil_parse]
  · unfold badF; rw [e]; exact nil_parse
theorem lev0 {f : List UInt8 → An} {i : List UInt8} (h : fldsF f i = []) : ∀ (k : Nat) (q : List UInt8), lev f [i] k q ↔ k = 0 ∧ q = i
  | 0, q => by show q ∈ [i] ↔ _; simp
  | k + 1, q => by
    constructor
    · rintro ⟨p, h1, h2⟩
      obtain ⟨_, rfl⟩ := (lev0 h k p).1 h1
      rw [h] at h2
      simp at h2
    · rintro ⟨h, _⟩
      omega
theorem opn0 {f : List UInt8 → An} {i : List UInt8} (h : fldsF f i = []) (q : List UInt8) : opn f [i] q ↔ q = i :=
  ⟨fun ⟨j, _, h1⟩ => ((lev0 h j q).1 h1).2, fun e => ⟨0, by omega, (lev0 h 0 q).2 ⟨rfl, e⟩⟩⟩
theorem known_one {r : Option (List UInt8) × Ws × List (List UInt8)} (h : Tls fK [i1] r) : picks r.2.1.B r.2.2 r.2.1.L = none ∧ canon r.2.1.N = [i1, i2] := by
  have ho := opn0 fK1.1
  have hn : ∀ q, nd fK [i1] q ↔ q ∈ [i1, i2] := fun q => by
    unfold nd
    constructor
    · rintro (h | ⟨p, h1, h2⟩)
      · simp at h; simp [h]
      · rw [(ho p).1 h1, fK1.2.1] at h2
        simp at h2
        simp [h2]
    · intro h
      rcases List.mem_cons.1 h with rfl | h
      · exact .inl (by simp)
      · exact .inr ⟨i1, (ho i1).2 rfl, by rw [fK1.2.1]; exact h⟩
  refine ⟨(whl_iff h).2 ⟨fun q hq => ?_, fun q hq => ?_, fun q hq => ?_⟩, ?_⟩
  · rw [(ho q).1 hq]; exact fK1.2.2
  · have := ((lev0 fK1.1 6 q).1 hq).1; omega
  · rcases List.mem_cons.1 ((hn q).1 hq) with rfl | h
    · rw [show fK i1 = .data tb from if_pos rfl]; simp
    · simp only [List.mem_singleton] at h
      subst h
      rw [show fK i2 = .data [] from by unfold fK; rw [if_neg (fun h => i12 h.symm), if_pos rfl]]
      simp
  · rw [← canon12]
    exact canon_cong (fun q => by rw [h.N q, hn q])
theorem known_two {r : Option (List UInt8) × Ws × List (List UInt8)} (h : Tls fK [i2] r) : picks r.2.1.B r.2.2 r.2.1.L = some (100, i2) := by
  have ho := opn0 fK2.1
  have hb : ∀ q, q ∈ r.2.1.B ↔ q ∈ [i2] := fun q => by
    rw [h.B q, ho q]
    constructor
    · rintro ⟨e, _⟩; simp [e]
    · intro h; simp only [List.mem_singleton] at h; subst h; exact ⟨rfl, fK2.2.2⟩
  have hc : canon r.2.1.B = [i2] := by rw [canon_cong hb]; rfl
  unfold picks
  rw [if_pos (fun e => by have := (hb i2).2 (by simp); rw [e] at this; simp at this), hc]
  rfl
theorem wp_insert_run9 {w : World} {o : Oper} {a : Act} {K : Act → World → Prop} {Q : Exit → Act → World → Prop} (d s r : Operand) (t : TypeId)
    (ho : o.op = .insert t d s r) (v u x : Value) (hd : a.eval d = v) (hs : a.eval s = u) (hx : a.eval r = x) {w' : World}
    (hr : (Instr.mapUpdate t v u x).run Tryz.prog w = .ok () w') (h : K (a.put o.dst undef) w') : o.wp Tryz.prog a w K Q := by
  unfold Oper.wp execOp
  simp [ho, hd, hs, hx, hr, Result.andThen]
  exact h

end Go.Proofs.YtngaimahhgmciabGreatDoor
