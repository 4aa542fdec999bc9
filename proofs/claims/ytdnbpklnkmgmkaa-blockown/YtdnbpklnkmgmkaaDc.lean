/-
  BlockOwn: Cf, Cg, Ch together. (Written by tools/merge.py.)
-/
import Derived.Test.YtdnbpklnkmgmkaaDa
import Derived.Test.YtdnbpklnkmgmkaaCd2
import Derived.Test.YtdnbpklnkmgmkaaCe2
namespace Go.Proofs.Ytdnbpklnkmgmkaa
section
open Go.RowKit
set_option linter.unusedVariables false
set_option linter.unusedSimpArgs false

theorem ents_set (h lf : Nat → Rw) (en : Nat → Nat) (mk : Nat → Value) (E k : Nat) (hk : k < E) (r : Rw) (inj : ∀ j, j < E → j ≠ k → en j ≠ en k) : (ents h lf en mk E).set (k * 3 + 1) r.val = ents h (upr lf (en k) r) en mk E := by
  apply List.ext_getElem?
  intro x
  by_cases hx : x < E * 3
  · have e : x = x / 3 * 3 + x % 3 := by omega
    have hj : x / 3 < E := by omega
    rw [List.getElem?_set]
    rw [ents_len]
    split
    · next hh =>
      subst hh
      rw [if_pos (by omega)]
      have := ents_at h (upr lf (en k) r) en mk E k 1 hk (by omega)
      rw [this]
      unfold ent
      rw [upr_same]
      rfl
    · next hh =>
      rw [e, ents_at h lf en mk E _ _ hj (by omega), ents_at h (upr lf (en k) r) en mk E _ _ hj (by omega)]
      unfold ent
      by_cases ek : x / 3 = k
      · have hm : x % 3 ≠ 1 := by omega
        have hm2 : x % 3 = 0 ∨ x % 3 = 2 := by omega
        rcases hm2 with hm2 | hm2 <;> rw [hm2] <;> rfl
      · rw [upr_other _ _ _ _ (inj _ hj ek)]
  · rw [List.getElem?_eq_none (by rw [List.length_set, ents_len]; omega), List.getElem?_eq_none (by rw [ents_len]; omega)]

theorem grown_heap {w w' : World} {row : Option Nat} (hg : w.grownBy w' row) {K : Nat} {o : Obj} (hK : w.heap[K]? = some o) (hne : row ≠ some K) : w'.heap[K]? = some o := (hg.block K (Array.getElem?_eq_some_iff.1 hK).1 (fun e => hne e.symm)).trans hK

/-- One of the longer ones goes on, and the Book is told so. -/
theorem Half.grow1 {e te : TypeId} {s B : Nat} {wr v0 : World} {m : Nat} {h lf : Nat → Rw} {en : Nat → Nat} {E : Nat} {mk : Nat → Value} {R : Rw} (H : Half e te s B wr m h lf en E mk R) {k : Nat} (hk : k < E) (t : TypeId) (z : Value) (bs : Nat) (ht : Try.prog.underlying t = some (.slice e)) (hinf : (Try.prog.info? e).map (fun i => (i.zero, i.size, i.bytes)) = some (some z, s, bs)) (hzs : z.cells.size = s) (hs : 0 < s) (hk0 : Kept [] wr v0) (ys : List Value) (hys : ys.length = s) (h1y : ∀ u ∈ ys, u.oneCell' = true) (hl : ((lf (en k)).n + 1) * bs ≤ 140737488355328) (hl2 : (lf (en k)).n + 1 ≤ 140737488355328) (hB : B ≤ wr.heap.size) (hne : e ≠ te) :
    ∃ g2 c2 w2 rg, R.o = some ⟨rg, 0, none⟩ ∧ (Builtin.append_ #[t, t] t #[(lf (en k)).val, .slice (some ⟨v0.heap.size, 0, none⟩) 1 1]).run Try.prog (v0.alloc (.cells ys.toArray e)) = .ok (.slice (some ⟨g2, 0, none⟩) ((lf (en k)).n + 1) c2) w2 ∧ (∃ u, w2.cell? ⟨rg, k * 3 + 1, none⟩ = some u) ∧ w2.frozen? ⟨rg, k * 3 + 1, none⟩ = false ∧ Kept (lf (en k)).blk.toList wr w2 ∧
      ∀ w3, w2.setCell ⟨rg, k * 3 + 1, none⟩ (.slice (some ⟨g2, 0, none⟩) ((lf (en k)).n + 1) c2) = w3 → (∃ R', R'.val = R.val ∧ Half e te s B w3 m h (upr lf (en k) ⟨some ⟨g2, 0, none⟩, c2, (lf (en k)).n + 1, (lf (en k)).vs ++ ys⟩) en E mk R') ∧ Chg [e, te] B wr w3 ∧ ∀ (K : Nat) (cs : Array Value) (t' : TypeId) (fr : Nat × Nat), wr.heap[K]? = some (.cells cs t' fr) → t' ≠ e → t' ≠ te → w3.heap[K]? = some (.cells cs t' fr) := by
  have hi := H.lt k hk
  have hka := hk0.alloc (.cells ys.toArray e)
  have H1 := H.kept hka
  have hyn := heap_new v0 (.cells ys.toArray e)
  have hB1 : B ≤ (v0.alloc (.cells ys.toArray e)).heap.size := Nat.le_trans hB hka.size
  obtain ⟨g2, c2, w2, hrun, n1, n2, n3, n4⟩ := run_append_both (P := Try.prog) t t z bs ht hinf hzs hs (lf (en k)) 1 ys v0.heap.size 1 (H1.fam.own _ hi) (by rw [hys, Nat.one_mul]) (by omega) (fun j u hj => by rw [cell_of_row _ _ _ _ _ _ hyn, List.getElem?_toArray]; exact hj) h1y hl hl2 hB1
  obtain ⟨r', hr'⟩ : ∃ r', (Rw.mk (some ⟨g2, 0, none⟩) c2 ((lf (en k)).n + 1) ((lf (en k)).vs ++ ys)) = r' := ⟨_, rfl⟩
  have hrv : r'.val = .slice (some ⟨g2, 0, none⟩) ((lf (en k)).n + 1) c2 := by rw [← hr']; rfl
  have hrn : r'.n = (lf (en k)).n + 1 := by rw [← hr']
  have hrb : r'.blk = some g2 := by rw [← hr']; rfl
  rw [hr'] at n1
  have F2 : Lx e s B w2 m h m (upr lf (en k) r') := Pf.app H1.fam hi n1 n2 n3 (by
    rw [hrb]
    rcases n4 with n4 | n4
    · exact .inl n4
    · refine .inr (fun k' hk' => ?_)
      cases hk'
      omega) (by omega)
  have R2 : R.At te 3 B w2 := H1.row.keep n3 (own_types H1.row (H1.fam.own _ hi) hne.symm)
  obtain ⟨rg, hrg, hrgb, hth, _⟩ : ∃ g, R.o = some ⟨g, 0, none⟩ ∧ R.blk = some g ∧ w2.there g 0 (R.n * 3) ∧ R.n ≤ R.c := R2.there (by rw [H.rn]; omega)
  have hc := hth (k * 3 + 1) (by rw [H.rn]; omega)
  rw [Nat.zero_add] at hc
  refine ⟨g2, c2, w2, rg, hrg, hrun, Option.isSome_iff_exists.1 hc.1, hc.2, (hka.mono (by simp)).grown n3 (fun k' hk' _ => by simp [hk']), fun w3 hw3 => ?_⟩
  rw [hr']
  rw [← hrv] at hw3
  obtain ⟨s1, s2⟩ := Rw.At.set R2 (g := rg) (k := k * 3 + 1) hrg r'.val
  rw [hw3] at s1 s2
  have hR2' : w2.ownsRow B te 3 R.val R.n R.vs := R2
  have c3 : Chg [te] B w2 w3 := Chg.on (v := R.val) hR2' s2 (by simp) (Nat.le_trans hB1 n3.size)
  refine ⟨⟨⟨R.o, R.c, R.n, R.vs.set (k * 3 + 1) r'.val⟩, rfl, Pf.chg F2 c3 (by simpa using hne), s1, H.rn, ?_, H.lt, H.inj⟩, ?_, ?_⟩
  · show R.vs.set (k * 3 + 1) r'.val = _
    rw [H.rv]
    exact ents_set h lf en mk E k hk r' (fun j hj hne => H.inj j k hj hk hne)
  · exact ((Chg.kept hka hB).trans (Chg.on (H1.fam.own _ hi) n3 (by simp) hB1)).trans (c3.mono (by simp))
  · intro K cs t' fr hK t1 t2
    have k1 : (v0.alloc (.cells ys.toArray e)).heap[K]? = some (.cells cs t' fr) := (hka.block K (Array.getElem?_eq_some_iff.1 hK).1 (by simp)).trans hK
    have k2 := grown_heap n3 k1 ((H1.fam.own _ hi).notIn k1 (fun h => t1 h.symm))
    exact grown_heap s2 k2 (R2.notIn k2 (fun h => t2 h.symm))
end

section
open Go.RowKit
set_option linter.unusedVariables false
set_option linter.unusedSimpArgs false

theorem Try.infoByte9 : (Try.prog.info? 5).map (fun i => (i.zero, i.size, i.bytes)) = some (some (.int .u8 0), 1, 1) := by kernel_rfl
/-- While it grows. -/
structure GB (w wr : World) (B K M m : Nat) (h lf0 : Nat → Rw) (en : Nat → Nat) (E : Nat) (V : Value) (cs : Array Value) (k i : Nat) (lf : Nat → Rw) (R : Rw) : Prop where
  half : Half 5 74 1 B wr m h lf en E mkvB R
  val : R.val = V
  cell : wr.heap[K]? = some (.cells cs 60 (0, 0))
  chg : Chg [5, 74] B w wr
  con : ConB h lf en E
  rest : ∀ j, k ≤ j → j < E → (lf (en j)).n ≤ M + (if j = k then i else 0)
  all : ∀ x, x < m → (lf x).n ≤ M + 64
  far : ∀ x, (∀ j, j < E → en j ≠ x) → lf x = lf0 x
theorem GB.next {w wr : World} {B K M m : Nat} {h lf0 : Nat → Rw} {en : Nat → Nat} {E : Nat} {V : Value} {cs : Array Value} {k i : Nat} {lf : Nat → Rw} {R : Rw} (h1 : GB w wr B K M m h lf0 en E V cs k i lf R) : GB w wr B K M m h lf0 en E V cs (k + 1) 0 lf R :=
  ⟨h1.half, h1.val, h1.cell, h1.chg, h1.con, fun j hj hE => by have := h1.rest j (by omega) hE; rw [if_neg (by omega)] at this; split <;> omega, h1.all, h1.far⟩
theorem GB.step {w wr w3 : World} {B K M m : Nat} {h lf0 : Nat → Rw} {en : Nat → Nat} {E : Nat} {V : Value} {cs : Array Value} {k i : Nat} {lf : Nat → Rw} {R : Rw} (h1 : GB w wr B K M m h lf0 en E V cs k i lf R) (hk : k < E) (hi : i < 64) {g2 c2 : Nat}
    (ht : (∃ R', R'.val = R.val ∧ Half 5 74 1 B w3 m h (upr lf (en k) ⟨some ⟨g2, 0, none⟩, c2, (lf (en k)).n + 1, (lf (en k)).vs ++ [.int .u8 ((mkB k : Int) + 1)]⟩) en E mkvB R') ∧ Chg [5, 74] B wr w3 ∧ ∀ (K : Nat) (cs : Array Value) (t' : TypeId) (fr : Nat × Nat), wr.heap[K]? = some (.cells cs t' fr) → t' ≠ 5 → t' ≠ 74 → w3.heap[K]? = some (.cells cs t' fr)) :
    ∃ lf' R', GB w w3 B K M m h lf0 en E V cs k (i + 1) lf' R' := by
  obtain ⟨⟨R', hv, hh⟩, hc, hkp⟩ := ht
  have hr := h1.rest k (Nat.le_refl _) hk
  rw [if_pos rfl] at hr
  refine ⟨_, R', hh, by rw [hv]; exact h1.val, hkp K cs _ _ h1.cell (by decide) (by decide), h1.chg.trans hc, ⟨h1.con.l, ?_⟩, ?_, ?_, ?_⟩
  · intro j hj x hx
    by_cases ej : j = k
    · subst ej
      rw [upr_same] at hx ⊢
      have hl := (h1.half.fam.own _ (h1.half.lt j hj)).1
      rw [Nat.mul_one] at hl
      by_cases hxn : x < (lf (en j)).n
      · rw [List.getElem?_append_left (by rw [hl]; exact hxn)]
        exact h1.con.g j hj x hxn
      · have hx2 : x = (lf (en j)).n := by simp only at hx; omega
        have hle := h1.half.fam.len _ (h1.half.lt j hj)
        rw [List.getElem?_append_right (by rw [hl]; omega), hl, hx2, Nat.sub_self, if_neg (by omega)]
        show some (Value.int .u8 ((mkB j : Int) + 1)) = _
        push_cast
        rfl
    · rw [upr_other _ _ _ _ (h1.half.inj j k hj hk ej)] at hx ⊢
      exact h1.con.g j hj x hx
  · intro j hj hE
    by_cases ej : j = k
    · subst ej
      rw [upr_same, if_pos rfl]
      show (lf (en j)).n + 1 ≤ _
      omega
    · rw [upr_other _ _ _ _ (h1.half.inj j k hE hk ej), if_neg ej]
      have := h1.rest j hj hE
      rw [if_neg ej] at this
      exact this
  · intro x hx
    by_cases ej : x = en k
    · subst ej
      rw [upr_same]
      show (lf (en k)).n + 1 ≤ _
      omega
    · rw [upr_other _ _ _ _ ej]; exact h1.all x hx
  · intro x hx
    rw [upr_other _ _ _ _ (fun e => hx k hk e.symm)]
    exact h1.far x hx
/-- While it grows. -/
structure GL (w wr : World) (B K M m : Nat) (h lf0 : Nat → Rw) (en : Nat → Nat) (E : Nat) (V : Value) (cs : Array Value) (k i : Nat) (lf : Nat → Rw) (R : Rw) : Prop where
  half : Half 45 76 4 B wr m h lf en E mkvL R
  val : R.val = V
  cell : wr.heap[K]? = some (.cells cs 60 (0, 0))
  chg : Chg [45, 76] B w wr
  con : ConL h lf en E
  rest : ∀ j, k ≤ j → j < E → (lf (en j)).n ≤ M + (if j = k then i else 0)
  all : ∀ x, x < m → (lf x).n ≤ M + 64
  far : ∀ x, (∀ j, j < E → en j ≠ x) → lf x = lf0 x
theorem GL.next {w wr : World} {B K M m : Nat} {h lf0 : Nat → Rw} {en : Nat → Nat} {E : Nat} {V : Value} {cs : Array Value} {k i : Nat} {lf : Nat → Rw} {R : Rw} (h1 : GL w wr B K M m h lf0 en E V cs k i lf R) : GL w wr B K M m h lf0 en E V cs (k + 1) 0 lf R :=
  ⟨h1.half, h1.val, h1.cell, h1.chg, h1.con, fun j hj hE => by have := h1.rest j (by omega) hE; rw [if_neg (by omega)] at this; split <;> omega, h1.all, h1.far⟩
theorem GL.step {w wr w3 : World} {B K M m : Nat} {h lf0 : Nat → Rw} {en : Nat → Nat} {E : Nat} {V : Value} {cs : Array Value} {k i : Nat} {lf : Nat → Rw} {R : Rw} (h1 : GL w wr B K M m h lf0 en E V cs k i lf R) (hk : k < E) (hi : i < 64) {g2 c2 : Nat}
    (ht : (∃ R', R'.val = R.val ∧ Half 45 76 4 B w3 m h (upr lf (en k) ⟨some ⟨g2, 0, none⟩, c2, (lf (en k)).n + 1, (lf (en k)).vs ++ [.int .i64 ((mkL k : Int) + 1), .int .i64 0, .int .i64 0, .int .i64 0]⟩) en E mkvL R') ∧ Chg [45, 76] B wr w3 ∧ ∀ (K : Nat) (cs : Array Value) (t' : TypeId) (fr : Nat × Nat), wr.heap[K]? = some (.cells cs t' fr) → t' ≠ 45 → t' ≠ 76 → w3.heap[K]? = some (.cells cs t' fr)) :
    ∃ lf' R', GL w w3 B K M m h lf0 en E V cs k (i + 1) lf' R' := by
  obtain ⟨⟨R', hv, hh⟩, hc, hkp⟩ := ht
  have hr := h1.rest k (Nat.le_refl _) hk
  rw [if_pos rfl] at hr
  refine ⟨_, R', hh, by rw [hv]; exact h1.val, hkp K cs _ _ h1.cell (by decide) (by decide), h1.chg.trans hc, ⟨h1.con.l, ?_⟩, ?_, ?_, ?_⟩
  · intro j hj x hx y v hy
    by_cases ej : j = k
    · subst ej
      rw [upr_same] at hx ⊢
      have hl := (h1.half.fam.own _ (h1.half.lt j hj)).1
      have hy4 : y < 4 := (List.getElem?_eq_some_iff.1 hy).1
      by_cases hxn : x < (lf (en j)).n
      · rw [List.getElem?_append_left (by rw [hl]; omega)]
        exact h1.con.g j hj x hxn y v hy
      · have hx2 : x = (lf (en j)).n := by simp only at hx; omega
        have hle := h1.half.fam.len _ (h1.half.lt j hj)
        rw [if_neg (by omega)] at hy
        rw [List.getElem?_append_right (by rw [hl]; omega), hl, hx2, show (lf (en j)).n * 4 + y - (lf (en j)).n * 4 = y by omega]
        rw [← hy]
        unfold yL
        rw [show ((mkL j + 1 : Nat) : Int) = (mkL j : Int) + 1 by push_cast; rfl]
    · rw [upr_other _ _ _ _ (h1.half.inj j k hj hk ej)] at hx ⊢
      exact h1.con.g j hj x hx y v hy
  · intro j hj hE
    by_cases ej : j = k
    · subst ej
      rw [upr_same, if_pos rfl]
      show (lf (en j)).n + 1 ≤ _
      omega
    · rw [upr_other _ _ _ _ (h1.half.inj j k hE hk ej), if_neg ej]
      have := h1.rest j hj hE
      rw [if_neg ej] at this
      exact this
  · intro x hx
    by_cases ej : x = en k
    · subst ej
      rw [upr_same]
      show (lf (en k)).n + 1 ≤ _
      omega
    · rw [upr_other _ _ _ _ ej]; exact h1.all x hx
  · intro x hx
    rw [upr_other _ _ _ _ (fun e => hx k hk e.symm)]
    exact h1.far x hx
end

section
open Go.RowKit
set_option linter.unusedVariables false
set_option linter.unusedSimpArgs false

/-- What grow leaves. -/
def GrowOk (w w' : World) (B K M m1 : Nat) (h lf : Nat → Rw) (en : Nat → Nat) (E m2 : Nat) (h2 lf2 : Nat → Rw) (en2 : Nat → Nat) (E2 : Nat) : Prop :=
  ∃ lf' R1' lf2' R2', Bok w' B K R1' R2' ∧ Half 5 74 1 B w' m1 h lf' en E mkvB R1' ∧ Half 45 76 4 B w' m2 h2 lf2' en2 E2 mkvL R2' ∧ ConB h lf' en E ∧ ConL h2 lf2' en2 E2 ∧ (∀ x, x < m1 → (lf' x).n ≤ M + 64) ∧ (∀ x, x < m2 → (lf2' x).n ≤ M + 64) ∧ (∀ x, (∀ j, j < E → en j ≠ x) → lf' x = lf x) ∧ (∀ x, (∀ j, j < E2 → en2 j ≠ x) → lf2' x = lf2 x) ∧ Chg [5, 74, 45, 76] B w w'

set_option maxHeartbeats 8000000 in
set_option maxRecDepth 100000 in
theorem grow_ok {w : World} {B K m1 : Nat} {h lf : Nat → Rw} {en : Nat → Nat} {E : Nat} {R1 R2 : Rw} {m2 : Nat} {h2 lf2 : Nat → Rw} {en2 : Nat → Nat} {E2 M : Nat} (hb : Bok w B K R1 R2) (H1 : Half 5 74 1 B w m1 h lf en E mkvB R1) (H2 : Half 45 76 4 B w m2 h2 lf2 en2 E2 mkvL R2) (hC1 : ConB h lf en E) (hC2 : ConL h2 lf2 en2 E2) (hE : E ≤ 100000000) (hE2 : E2 ≤ 100000000) (hM : M ≤ 1000000000) (hM1 : ∀ i, i < m1 → (lf i).n ≤ M) (hM2 : ∀ i, i < m2 → (lf2 i).n ≤ M) (hB : B ≤ w.heap.size) :
    Calls Try.prog 25 #[.pointer (some ⟨K, 0, none⟩)] w fun e w' => e = .returned (.tuple #[]) ∧ GrowOk w w' B K M m1 h lf en E m2 h2 lf2 en2 E2 := by
  obtain ⟨ro, hro⟩ : ∃ ro, R1.o = ro := ⟨_, rfl⟩
  obtain ⟨rc, hrc⟩ : ∃ rc, R1.c = rc := ⟨_, rfl⟩
  obtain ⟨so, hso⟩ : ∃ so, R2.o = so := ⟨_, rfl⟩
  obtain ⟨sc, hsc⟩ : ∃ sc, R2.c = sc := ⟨_, rfl⟩
  have hv1 : R1.val = .slice ro E rc := by unfold Rw.val; rw [hro, hrc, H1.rn]
  have hv2 : R2.val = .slice so E2 sc := by unfold Rw.val; rw [hso, hsc, H2.rn]
  obtain ⟨cs, hcs⟩ : ∃ cs, (#[.slice ro E rc, .slice so E2 sc] : Array Value) = cs := ⟨_, rfl⟩
  have hcell := hb.cell
  rw [hv1, hv2, hcs] at hcell
  have HCS : Hid (cs = #[.slice ro E rc, .slice so E2 sc]) := hcs.symm
  have HKB := hide hb.ge
  have HV2 := hide hv2
  have HHL := hide H2
  have HCL := hide hC2
  have HML := hide hM2
  have HG0 : Hid (∃ lf' R', GB w w B K M m1 h lf en E (.slice ro E rc) cs 0 0 lf' R') := ⟨lf, R1, H1, hv1, hcell, Chg.refl _ _ _, hC1, fun j _ hj => by have := hM1 _ (H1.lt j hj); split <;> omega, fun x hx => by have := hM1 x hx; omega, fun x _ => rfl⟩
  have HB0 := hide hB
  have hzb := Try.zeroBlk11
  clear hb H1 H2 hC1 hC2 hM1 hM2 hro hrc hso hsc hv1 hv2 hcs hcell hB
  go_enter Try.func25, Try.ntmps25
  go_wp2
  go_loopw [2] (fun y wr => ∃ k : Nat, k ≤ E ∧ y = .int .i64 k ∧ Hid (∃ lf' R', GB w wr B K M m1 h lf en E (.slice ro E rc) cs k 0 lf' R') ∧ Hid (B ≤ wr.heap.size)) (fun y wr => E - (intOf y).toNat)
  case atStart => exact ⟨0, Nat.zero_le _, rfl, HG0, HB0⟩
  case round =>
    obtain ⟨k, hk, rfl, HGE, HBB⟩ := hrel
    obtain ⟨lf', R', hG⟩ := HGE.out
    have kc : wr.cell? ⟨K, 0, none⟩ = some (.slice ro E rc) := by rw [cell_of_row _ _ _ _ _ _ hG.cell]; rw [HCS.out]; rfl
    by_cases hlt : k < E
    · have hki : (k : Int) < (E : Int) := by omega
      clear hG
      obtain ⟨N, hN⟩ : ∃ N, (if k < 64 then 64 else 2) = N := ⟨_, rfl⟩
      have hN2 : N ≤ 64 := by rw [← hN]; split <;> omega
      go_upto_region 4 with (fail)
      go_loopw [3] (fun y wr => ∃ i : Nat, i ≤ N ∧ y = .int .i64 i ∧ Hid (∃ lf' R', GB w wr B K M m1 h lf en E (.slice ro E rc) cs k i lf' R') ∧ Hid (B ≤ wr.heap.size)) (fun y wr => N - (intOf y).toNat)
      case atStart => exact ⟨0, Nat.zero_le _, rfl, HGE, HBB⟩
      case round =>
        clear HGE HBB kc
        obtain ⟨i, hi, rfl, HGE, HBB⟩ := hrel
        by_cases hlt2 : i < N
        · obtain ⟨lf', R', hG⟩ := HGE.out
          have HG := hide hG
          obtain ⟨rg, hro, a0, a1, a2⟩ := hG.half.at hlt
          have hval := hG.val
          have HRO : Hid (R'.o = some ⟨rg, 0, none⟩) := hro
          have ho : ro = some ⟨rg, 0, none⟩ := by have h3 := hval; unfold Rw.val at h3; injection h3 with h4 _ _; rw [← h4]; exact hro
          obtain ⟨n, hn⟩ : ∃ n, (lf' (en k)).n = n := ⟨_, rfl⟩
          obtain ⟨go, hgo⟩ : ∃ go, (lf' (en k)).o = go := ⟨_, rfl⟩
          obtain ⟨gc, hgc⟩ : ∃ gc, (lf' (en k)).c = gc := ⟨_, rfl⟩
          have v2 : (lf' (en k)).val = .slice go n gc := by unfold Rw.val; rw [hgo, hn, hgc]
          have HLV : Hid ((lf' (en k)).val = .slice go n gc) := v2
          have HN : Hid ((lf' (en k)).n = n) := hn
          obtain ⟨bl, hbl⟩ : ∃ bl, (lf' (en k)).blk.toList = bl := ⟨_, rfl⟩
          have HBL := hide hbl
          have hown := hG.half.fam.own _ (hG.half.lt k hlt)
          have HKN : Hid (K ∉ bl) := fun hm => by rw [← hbl] at hm; exact hown.notIn hG.cell (by decide) (by simpa using hm)
          have HRN : Hid (rg ∉ bl) := fun hm => by
            rw [← hbl] at hm
            have hrb : R'.blk = some rg := by unfold Rw.blk Rw.val; rw [hro]; rfl
            exact own_types hown hG.half.row (by decide) rg (show (lf' (en k)).blk = some rg from by simpa using hm) hrb
          obtain ⟨c, hc⟩ : ∃ c, mkB k = c := ⟨_, rfl⟩
          have HCM := hide hc
          have b1 := a1
          rw [v2] at b1
          have b2 := a2
          have v3 : mkvB k = .int .u8 (c : Nat) := by unfold mkvB; rw [hc]
          rw [v3] at b2
          have kc : wr.cell? ⟨K, 0, none⟩ = some (.slice (some ⟨rg, 0, none⟩) E rc) := by rw [← ho, cell_of_row _ _ _ _ _ _ hG.cell]; rw [HCS.out]; rfl
          have hlow : c ≤ 199 := by rw [← hc]; exact mkB_lt k
          have hw : IntKind.u8.wrap ((c : Int) + 1) = (c : Int) + 1 := by rw [IntKind.wrap_u8]; omega
          have hnb : n ≤ 2000000000 := by rw [← hn]; have := hG.all _ (hG.half.lt k hlt); omega
          have hi64 : i < 64 := by omega
          have hcond : (decide ((i : Int) < 2) || (decide ((k : Int) < 64) && decide ((i : Int) < 64))) = true := by
            simp only [Bool.or_eq_true, Bool.and_eq_true, decide_eq_true_eq]
            rw [← hN] at hlt2
            split at hlt2 <;> omega
          clear a0 a1 a2 v2 v3 hro hval hn hgo hgc hc hG HGE hown hbl ho
          by_cases hi2 : i < 2
          · as_aux_lemma =>
            have q1 : (i : Int) < 2 := by omega
            have q1d : decide ((i : Int) < 2) = true := by simp; omega
            have q1n : decide (i < 2) = true := by simp; omega
            clear hcond
            go_upto_region 6 with (fail)
            refine wp_region_late (fun w' => Kept bl wr w') (fun i => i == 26) (by kernel_rfl) ?_
            have h0 : Kept bl wr wr.drew := (Kept.refl bl wr).drew
            have k0 : Kept [] wr wr.drew := (Kept.refl [] wr).drew
            generalize World.drew wr = v0 at h0 k0 ⊢
            refine wpAnyL_free (i := 0) (v := .pointer (some ⟨K, 0, none⟩)) rfl (by kernel_rfl) (by kernel_rfl) (by kernel_rfl) (fun _ _ _ h => h) (Or.inl ⟨by rfl, fun w _ => by go_simp⟩) ?_
            try simp only [List.getElem_toArray, List.getElem_cons_zero, List.getElem_cons_succ, Act.put, List.setIfInBounds_toArray, List.set_cons_zero, List.set_cons_succ]
            refine wpAnyL_free (i := 1) (v := .pointer (some ⟨K, 0, none⟩)) rfl (by kernel_rfl) (by kernel_rfl) (by kernel_rfl) (fun _ _ _ h => h) (Or.inl ⟨by rfl, fun w _ => by go_simp⟩) ?_
            try simp only [List.getElem_toArray, List.getElem_cons_zero, List.getElem_cons_succ, Act.put, List.setIfInBounds_toArray, List.set_cons_zero, List.set_cons_succ]
            refine wpAnyL_free (i := 2) (v := .pointer (some ⟨K, 0, none⟩)) rfl (by kernel_rfl) (by kernel_rfl) (by kernel_rfl) (fun _ _ _ h => h) (Or.inl ⟨by rfl, fun w _ => by go_simp⟩) ?_
            try simp only [List.getElem_toArray, List.getElem_cons_zero, List.getElem_cons_succ, Act.put, List.setIfInBounds_toArray, List.set_cons_zero, List.set_cons_succ]
            refine wpAnyL_take (i := 3) (v := (.slice (some ⟨rg, 0, none⟩) E rc)) rfl (by kernel_rfl) (by kernel_rfl) (by kernel_rfl) (by kernel_rfl) (by kernel_rfl) (fun _ _ _ h => h) (Or.inl ⟨by rfl, fun w hSw => by have c := Kept.cellOf hSw kc HKN.out; go_simp⟩) h0 ?_
            try simp only [List.getElem_toArray, List.getElem_cons_zero, List.getElem_cons_succ, Act.put, List.setIfInBounds_toArray, List.set_cons_zero, List.set_cons_succ]
            refine wpAnyL_free (i := 4) (v := .int .i64 k) rfl (by kernel_rfl) (by kernel_rfl) (by kernel_rfl) (fun _ _ _ h => h) (Or.inl ⟨by rfl, fun w _ => by go_simp⟩) ?_
            try simp only [List.getElem_toArray, List.getElem_cons_zero, List.getElem_cons_succ, Act.put, List.setIfInBounds_toArray, List.set_cons_zero, List.set_cons_succ]
            refine wpAnyL_free (i := 5) (v := .pointer (some ⟨K, 0, none⟩)) rfl (by kernel_rfl) (by kernel_rfl) (by kernel_rfl) (fun _ _ _ h => h) (Or.inl ⟨by rfl, fun w _ => by go_simp⟩) ?_
            try simp only [List.getElem_toArray, List.getElem_cons_zero, List.getElem_cons_succ, Act.put, List.setIfInBounds_toArray, List.set_cons_zero, List.set_cons_succ]
            refine wpAnyL_free (i := 6) (v := .pointer (some ⟨K, 0, none⟩)) rfl (by kernel_rfl) (by kernel_rfl) (by kernel_rfl) (fun _ _ _ h => h) (Or.inl ⟨by rfl, fun w _ => by go_simp⟩) ?_
            try simp only [List.getElem_toArray, List.getElem_cons_zero, List.getElem_cons_succ, Act.put, List.setIfInBounds_toArray, List.set_cons_zero, List.set_cons_succ]
            refine wpAnyL_free (i := 7) (v := .pointer (some ⟨K, 0, none⟩)) rfl (by kernel_rfl) (by kernel_rfl) (by kernel_rfl) (fun _ _ _ h => h) (Or.inl ⟨by rfl, fun w _ => by go_simp⟩) ?_
            try simp only [List.getElem_toArray, List.getElem_cons_zero, List.getElem_cons_succ, Act.put, List.setIfInBounds_toArray, List.set_cons_zero, List.set_cons_succ]
            refine wpAnyL_take (i := 8) (v := (.slice (some ⟨rg, 0, none⟩) E rc)) rfl (by kernel_rfl) (by kernel_rfl) (by kernel_rfl) (by kernel_rfl) (by kernel_rfl) (fun _ _ _ h => h) (Or.inl ⟨by rfl, fun w hSw => by have c := Kept.cellOf hSw kc HKN.out; go_simp⟩) h0 ?_
            try simp only [List.getElem_toArray, List.getElem_cons_zero, List.getElem_cons_succ, Act.put, List.setIfInBounds_toArray, List.set_cons_zero, List.set_cons_succ]
            refine wpAnyL_free (i := 9) (v := .int .i64 k) rfl (by kernel_rfl) (by kernel_rfl) (by kernel_rfl) (fun _ _ _ h => h) (Or.inl ⟨by rfl, fun w _ => by go_simp⟩) ?_
            try simp only [List.getElem_toArray, List.getElem_cons_zero, List.getElem_cons_succ, Act.put, List.setIfInBounds_toArray, List.set_cons_zero, List.set_cons_succ]
            refine wpAnyL_free (i := 13) (v := .pointer (some ⟨K, 0, none⟩)) rfl (by kernel_rfl) (by kernel_rfl) (by kernel_rfl) (fun _ _ _ h => h) (Or.inl ⟨by rfl, fun w _ => by go_simp⟩) ?_
            try simp only [List.getElem_toArray, List.getElem_cons_zero, List.getElem_cons_succ, Act.put, List.setIfInBounds_toArray, List.set_cons_zero, List.set_cons_succ]
            refine wpAnyL_free (i := 14) (v := .pointer (some ⟨K, 0, none⟩)) rfl (by kernel_rfl) (by kernel_rfl) (by kernel_rfl) (fun _ _ _ h => h) (Or.inl ⟨by rfl, fun w _ => by go_simp⟩) ?_
            try simp only [List.getElem_toArray, List.getElem_cons_zero, List.getElem_cons_succ, Act.put, List.setIfInBounds_toArray, List.set_cons_zero, List.set_cons_succ]
            refine wpAnyL_free (i := 15) (v := .pointer (some ⟨K, 0, none⟩)) rfl (by kernel_rfl) (by kernel_rfl) (by kernel_rfl) (fun _ _ _ h => h) (Or.inl ⟨by rfl, fun w _ => by go_simp⟩) ?_
            try simp only [List.getElem_toArray, List.getElem_cons_zero, List.getElem_cons_succ, Act.put, List.setIfInBounds_toArray, List.set_cons_zero, List.set_cons_succ]
            refine wpAnyL_take (i := 16) (v := (.slice (some ⟨rg, 0, none⟩) E rc)) rfl (by kernel_rfl) (by kernel_rfl) (by kernel_rfl) (by kernel_rfl) (by kernel_rfl) (fun _ _ _ h => h) (Or.inl ⟨by rfl, fun w hSw => by have c := Kept.cellOf hSw kc HKN.out; go_simp⟩) h0 ?_
            try simp only [List.getElem_toArray, List.getElem_cons_zero, List.getElem_cons_succ, Act.put, List.setIfInBounds_toArray, List.set_cons_zero, List.set_cons_succ]
            refine wpAnyL_free (i := 17) (v := .int .i64 k) rfl (by kernel_rfl) (by kernel_rfl) (by kernel_rfl) (fun _ _ _ h => h) (Or.inl ⟨by rfl, fun w _ => by go_simp⟩) ?_
            try simp only [List.getElem_toArray, List.getElem_cons_zero, List.getElem_cons_succ, Act.put, List.setIfInBounds_toArray, List.set_cons_zero, List.set_cons_succ]
            refine wpAnyL_free (i := 10) (v := .pointer (some ⟨rg, k * 3, none⟩)) rfl (by kernel_rfl) (by kernel_rfl) (by kernel_rfl) (fun _ _ _ h => h) (Or.inl ⟨by rfl, fun w _ => by have c0 := hki; go_simp⟩) ?_
            try simp only [List.getElem_toArray, List.getElem_cons_zero, List.getElem_cons_succ, Act.put, List.setIfInBounds_toArray, List.set_cons_zero, List.set_cons_succ]
            refine wpAnyL_free (i := 11) (v := .pointer (some ⟨rg, k * 3 + 1, none⟩)) rfl (by kernel_rfl) (by kernel_rfl) (by kernel_rfl) (fun _ _ _ h => h) (Or.inl ⟨by rfl, fun w _ => by go_simp⟩) ?_
            try simp only [List.getElem_toArray, List.getElem_cons_zero, List.getElem_cons_succ, Act.put, List.setIfInBounds_toArray, List.set_cons_zero, List.set_cons_succ]
            refine wpAnyL_take (i := 12) (v := (.slice go n gc)) rfl (by kernel_rfl) (by kernel_rfl) (by kernel_rfl) (by kernel_rfl) (by kernel_rfl) (fun _ _ _ h => h) (Or.inl ⟨by rfl, fun w hSw => by have c := Kept.cellOf hSw b1 HRN.out; go_simp⟩) h0 ?_
            try simp only [List.getElem_toArray, List.getElem_cons_zero, List.getElem_cons_succ, Act.put, List.setIfInBounds_toArray, List.set_cons_zero, List.set_cons_succ]
            refine wpAnyL_free (i := 18) (v := .pointer (some ⟨rg, k * 3, none⟩)) rfl (by kernel_rfl) (by kernel_rfl) (by kernel_rfl) (fun _ _ _ h => h) (Or.inl ⟨by rfl, fun w _ => by have c0 := hki; go_simp⟩) ?_
            try simp only [List.getElem_toArray, List.getElem_cons_zero, List.getElem_cons_succ, Act.put, List.setIfInBounds_toArray, List.set_cons_zero, List.set_cons_succ]
            refine wpAnyL_free (i := 19) (v := .pointer (some ⟨rg, k * 3 + 2, none⟩)) rfl (by kernel_rfl) (by kernel_rfl) (by kernel_rfl) (fun _ _ _ h => h) (Or.inl ⟨by rfl, fun w _ => by go_simp⟩) ?_
            try simp only [List.getElem_toArray, List.getElem_cons_zero, List.getElem_cons_succ, Act.put, List.setIfInBounds_toArray, List.set_cons_zero, List.set_cons_succ]
            refine wpAnyL_take (i := 20) (v := .int .u8 (c : Nat)) rfl (by kernel_rfl) (by kernel_rfl) (by kernel_rfl) (by kernel_rfl) (by kernel_rfl) (fun _ _ _ h => h) (Or.inl ⟨by rfl, fun w hSw => by have c := Kept.cellOf hSw b2 HRN.out; go_simp⟩) h0 ?_
            try simp only [List.getElem_toArray, List.getElem_cons_zero, List.getElem_cons_succ, Act.put, List.setIfInBounds_toArray, List.set_cons_zero, List.set_cons_succ]
            refine wpAnyL_free (i := 21) (v := .int .u8 ((c : Int) + 1)) rfl (by kernel_rfl) (by kernel_rfl) (by kernel_rfl) (fun _ _ _ h => h) (Or.inl ⟨by rfl, fun w _ => by have c0 := hw; go_simp⟩) ?_
            try simp only [List.getElem_toArray, List.getElem_cons_zero, List.getElem_cons_succ, Act.put, List.setIfInBounds_toArray, List.set_cons_zero, List.set_cons_succ]
            obtain ⟨g2, c2, w2, rg', hrg', hrun, ⟨u, hu⟩, hfz, hkb, hst⟩ := HG.out.half.grow1 hlt 23 _ 1 Try.underlying23 Try.infoByte9 rfl (by omega) k0 [.int .u8 ((c : Int) + 1)] rfl (by simp [Value.oneCell']) (by rw [HN.out]; omega) (by rw [HN.out]; omega) HBB.out (by decide)
            rw [HRO.out] at hrg'
            cases hrg'
            rw [HLV.out, HN.out] at hrun
            rw [HBL.out] at hkb
            rw [HN.out] at hst
            have HST := hide hst
            clear hst
            refine wpAnyL_one (i := 22) (by kernel_rfl) rfl (fun K' hK => ?_)
            rw [if_pos (by rfl)]
            go_simp
            refine hK.out _ _ (fun _ _ => h0.alloc _) ?_
            clear hK K'
            try simp only [List.getElem_toArray, List.getElem_cons_zero, List.getElem_cons_succ, Act.put, List.setIfInBounds_toArray, List.set_cons_zero, List.set_cons_succ]
            refine wpAnyL_one (i := 23) (by kernel_rfl) rfl (fun K' hK => ?_)
            rw [if_pos (by rfl)]
            refine wp_append_run (.tmp 39) (.tmp 49) 23 rfl (.slice go n gc) (.slice (some ⟨v0.heap.size, 0, none⟩) 1 1) rfl rfl (.slice (some ⟨g2, 0, none⟩) (n + 1) c2) w2 hrun ?_
            refine hK.out _ _ (fun _ _ => hkb) ?_
            clear hK K' hrun
            try simp only [List.getElem_toArray, List.getElem_cons_zero, List.getElem_cons_succ, Act.put, List.setIfInBounds_toArray, List.set_cons_zero, List.set_cons_succ]
            refine wpAnyL_free (i := 24) (v := .pointer (some ⟨rg, k * 3, none⟩)) rfl (by kernel_rfl) (by kernel_rfl) (by kernel_rfl) (fun _ _ _ h => h) (Or.inl ⟨by rfl, fun w _ => by have c0 := hki; go_simp⟩) ?_
            try simp only [List.getElem_toArray, List.getElem_cons_zero, List.getElem_cons_succ, Act.put, List.setIfInBounds_toArray, List.set_cons_zero, List.set_cons_succ]
            refine wpAnyL_free (i := 25) (v := .pointer (some ⟨rg, k * 3 + 1, none⟩)) rfl (by kernel_rfl) (by kernel_rfl) (by kernel_rfl) (fun _ _ _ h => h) (Or.inl ⟨by rfl, fun w _ => by go_simp⟩) ?_
            try simp only [List.getElem_toArray, List.getElem_cons_zero, List.getElem_cons_succ, Act.put, List.setIfInBounds_toArray, List.set_cons_zero, List.set_cons_succ]
            refine wpAnyL_one (i := 26) (by kernel_rfl) rfl (fun K' hK => ?_)
            rw [if_pos (by rfl)]
            go_simp
            refine hK.out _ _ (fun _ h => by cases h) ?_
            clear hK K'
            try simp only [List.getElem_toArray, List.getElem_cons_zero, List.getElem_cons_succ, Act.put, List.setIfInBounds_toArray, List.set_cons_zero, List.set_cons_succ]
            refine wpAnyL_done (by kernel_rfl) ?_ _
            obtain ⟨w3, hw3⟩ : ∃ w3, w2.setCell ⟨rg, k * 3 + 1, none⟩ (.slice (some ⟨g2, 0, none⟩) (n + 1) c2) = w3 := ⟨_, rfl⟩
            have HG3 : Hid (∃ lf' R', GB w w3 B K M m1 h lf en E (.slice ro E rc) cs k (i + 1) lf' R') := by
              have h5 := HST.out w3 hw3
              rw [← HN.out, ← HCM.out] at h5
              exact HG.out.step hlt hi64 h5
            have HB3 : Hid (B ≤ w3.heap.size) := by
              have h5 := (HST.out w3 hw3).2.1.bel.size
              exact Nat.le_trans HBB.out h5
            rw [hw3]
            clear hw3 HST hu hfz h0 k0 hkb b1 b2 kc HG
            go_wp2
            go_roundw
            case rel => exact ⟨i + 1, by omega, by go_num, HG3, HB3⟩
            case measure => simp [intOf]; omega
          · as_aux_lemma =>
            have q1 : ¬ (i : Int) < 2 := by omega
            have q1d : decide ((i : Int) < 2) = false := by simp; omega
            have q1n : decide (i < 2) = false := by simp; omega
            have q2 : (k : Int) < 64 := by rw [← hN] at hlt2; split at hlt2 <;> omega
            have q3 : (i : Int) < 64 := by omega
            have q2d : decide ((k : Int) < 64) = true := by simp; omega
            have q2n : decide (k < 64) = true := by simp; omega
            have q3d : decide ((i : Int) < 64) = true := by simp; omega
            have q3n : decide (i < 64) = true := by simp; omega
            clear hcond
            go_upto_region 6 with (fail)
            refine wp_region_late (fun w' => Kept bl wr w') (fun i => i == 26) (by kernel_rfl) ?_
            have h0 : Kept bl wr wr.drew := (Kept.refl bl wr).drew
            have k0 : Kept [] wr wr.drew := (Kept.refl [] wr).drew
            generalize World.drew wr = v0 at h0 k0 ⊢
            refine wpAnyL_free (i := 0) (v := .pointer (some ⟨K, 0, none⟩)) rfl (by kernel_rfl) (by kernel_rfl) (by kernel_rfl) (fun _ _ _ h => h) (Or.inl ⟨by rfl, fun w _ => by go_simp⟩) ?_
            try simp only [List.getElem_toArray, List.getElem_cons_zero, List.getElem_cons_succ, Act.put, List.setIfInBounds_toArray, List.set_cons_zero, List.set_cons_succ]
            refine wpAnyL_free (i := 1) (v := .pointer (some ⟨K, 0, none⟩)) rfl (by kernel_rfl) (by kernel_rfl) (by kernel_rfl) (fun _ _ _ h => h) (Or.inl ⟨by rfl, fun w _ => by go_simp⟩) ?_
            try simp only [List.getElem_toArray, List.getElem_cons_zero, List.getElem_cons_succ, Act.put, List.setIfInBounds_toArray, List.set_cons_zero, List.set_cons_succ]
            refine wpAnyL_free (i := 2) (v := .pointer (some ⟨K, 0, none⟩)) rfl (by kernel_rfl) (by kernel_rfl) (by kernel_rfl) (fun _ _ _ h => h) (Or.inl ⟨by rfl, fun w _ => by go_simp⟩) ?_
            try simp only [List.getElem_toArray, List.getElem_cons_zero, List.getElem_cons_succ, Act.put, List.setIfInBounds_toArray, List.set_cons_zero, List.set_cons_succ]
            refine wpAnyL_take (i := 3) (v := (.slice (some ⟨rg, 0, none⟩) E rc)) rfl (by kernel_rfl) (by kernel_rfl) (by kernel_rfl) (by kernel_rfl) (by kernel_rfl) (fun _ _ _ h => h) (Or.inl ⟨by rfl, fun w hSw => by have c := Kept.cellOf hSw kc HKN.out; go_simp⟩) h0 ?_
            try simp only [List.getElem_toArray, List.getElem_cons_zero, List.getElem_cons_succ, Act.put, List.setIfInBounds_toArray, List.set_cons_zero, List.set_cons_succ]
            refine wpAnyL_free (i := 4) (v := .int .i64 k) rfl (by kernel_rfl) (by kernel_rfl) (by kernel_rfl) (fun _ _ _ h => h) (Or.inl ⟨by rfl, fun w _ => by go_simp⟩) ?_
            try simp only [List.getElem_toArray, List.getElem_cons_zero, List.getElem_cons_succ, Act.put, List.setIfInBounds_toArray, List.set_cons_zero, List.set_cons_succ]
            refine wpAnyL_free (i := 5) (v := .pointer (some ⟨K, 0, none⟩)) rfl (by kernel_rfl) (by kernel_rfl) (by kernel_rfl) (fun _ _ _ h => h) (Or.inl ⟨by rfl, fun w _ => by go_simp⟩) ?_
            try simp only [List.getElem_toArray, List.getElem_cons_zero, List.getElem_cons_succ, Act.put, List.setIfInBounds_toArray, List.set_cons_zero, List.set_cons_succ]
            refine wpAnyL_free (i := 6) (v := .pointer (some ⟨K, 0, none⟩)) rfl (by kernel_rfl) (by kernel_rfl) (by kernel_rfl) (fun _ _ _ h => h) (Or.inl ⟨by rfl, fun w _ => by go_simp⟩) ?_
            try simp only [List.getElem_toArray, List.getElem_cons_zero, List.getElem_cons_succ, Act.put, List.setIfInBounds_toArray, List.set_cons_zero, List.set_cons_succ]
            refine wpAnyL_free (i := 7) (v := .pointer (some ⟨K, 0, none⟩)) rfl (by kernel_rfl) (by kernel_rfl) (by kernel_rfl) (fun _ _ _ h => h) (Or.inl ⟨by rfl, fun w _ => by go_simp⟩) ?_
            try simp only [List.getElem_toArray, List.getElem_cons_zero, List.getElem_cons_succ, Act.put, List.setIfInBounds_toArray, List.set_cons_zero, List.set_cons_succ]
            refine wpAnyL_take (i := 8) (v := (.slice (some ⟨rg, 0, none⟩) E rc)) rfl (by kernel_rfl) (by kernel_rfl) (by kernel_rfl) (by kernel_rfl) (by kernel_rfl) (fun _ _ _ h => h) (Or.inl ⟨by rfl, fun w hSw => by have c := Kept.cellOf hSw kc HKN.out; go_simp⟩) h0 ?_
            try simp only [List.getElem_toArray, List.getElem_cons_zero, List.getElem_cons_succ, Act.put, List.setIfInBounds_toArray, List.set_cons_zero, List.set_cons_succ]
            refine wpAnyL_free (i := 9) (v := .int .i64 k) rfl (by kernel_rfl) (by kernel_rfl) (by kernel_rfl) (fun _ _ _ h => h) (Or.inl ⟨by rfl, fun w _ => by go_simp⟩) ?_
            try simp only [List.getElem_toArray, List.getElem_cons_zero, List.getElem_cons_succ, Act.put, List.setIfInBounds_toArray, List.set_cons_zero, List.set_cons_succ]
            refine wpAnyL_free (i := 13) (v := .pointer (some ⟨K, 0, none⟩)) rfl (by kernel_rfl) (by kernel_rfl) (by kernel_rfl) (fun _ _ _ h => h) (Or.inl ⟨by rfl, fun w _ => by go_simp⟩) ?_
            try simp only [List.getElem_toArray, List.getElem_cons_zero, List.getElem_cons_succ, Act.put, List.setIfInBounds_toArray, List.set_cons_zero, List.set_cons_succ]
            refine wpAnyL_free (i := 14) (v := .pointer (some ⟨K, 0, none⟩)) rfl (by kernel_rfl) (by kernel_rfl) (by kernel_rfl) (fun _ _ _ h => h) (Or.inl ⟨by rfl, fun w _ => by go_simp⟩) ?_
            try simp only [List.getElem_toArray, List.getElem_cons_zero, List.getElem_cons_succ, Act.put, List.setIfInBounds_toArray, List.set_cons_zero, List.set_cons_succ]
            refine wpAnyL_free (i := 15) (v := .pointer (some ⟨K, 0, none⟩)) rfl (by kernel_rfl) (by kernel_rfl) (by kernel_rfl) (fun _ _ _ h => h) (Or.inl ⟨by rfl, fun w _ => by go_simp⟩) ?_
            try simp only [List.getElem_toArray, List.getElem_cons_zero, List.getElem_cons_succ, Act.put, List.setIfInBounds_toArray, List.set_cons_zero, List.set_cons_succ]
            refine wpAnyL_take (i := 16) (v := (.slice (some ⟨rg, 0, none⟩) E rc)) rfl (by kernel_rfl) (by kernel_rfl) (by kernel_rfl) (by kernel_rfl) (by kernel_rfl) (fun _ _ _ h => h) (Or.inl ⟨by rfl, fun w hSw => by have c := Kept.cellOf hSw kc HKN.out; go_simp⟩) h0 ?_
            try simp only [List.getElem_toArray, List.getElem_cons_zero, List.getElem_cons_succ, Act.put, List.setIfInBounds_toArray, List.set_cons_zero, List.set_cons_succ]
            refine wpAnyL_free (i := 17) (v := .int .i64 k) rfl (by kernel_rfl) (by kernel_rfl) (by kernel_rfl) (fun _ _ _ h => h) (Or.inl ⟨by rfl, fun w _ => by go_simp⟩) ?_
            try simp only [List.getElem_toArray, List.getElem_cons_zero, List.getElem_cons_succ, Act.put, List.setIfInBounds_toArray, List.set_cons_zero, List.set_cons_succ]
            refine wpAnyL_free (i := 10) (v := .pointer (some ⟨rg, k * 3, none⟩)) rfl (by kernel_rfl) (by kernel_rfl) (by kernel_rfl) (fun _ _ _ h => h) (Or.inl ⟨by rfl, fun w _ => by have c0 := hki; go_simp⟩) ?_
            try simp only [List.getElem_toArray, List.getElem_cons_zero, List.getElem_cons_succ, Act.put, List.setIfInBounds_toArray, List.set_cons_zero, List.set_cons_succ]
            refine wpAnyL_free (i := 11) (v := .pointer (some ⟨rg, k * 3 + 1, none⟩)) rfl (by kernel_rfl) (by kernel_rfl) (by kernel_rfl) (fun _ _ _ h => h) (Or.inl ⟨by rfl, fun w _ => by go_simp⟩) ?_
            try simp only [List.getElem_toArray, List.getElem_cons_zero, List.getElem_cons_succ, Act.put, List.setIfInBounds_toArray, List.set_cons_zero, List.set_cons_succ]
            refine wpAnyL_take (i := 12) (v := (.slice go n gc)) rfl (by kernel_rfl) (by kernel_rfl) (by kernel_rfl) (by kernel_rfl) (by kernel_rfl) (fun _ _ _ h => h) (Or.inl ⟨by rfl, fun w hSw => by have c := Kept.cellOf hSw b1 HRN.out; go_simp⟩) h0 ?_
            try simp only [List.getElem_toArray, List.getElem_cons_zero, List.getElem_cons_succ, Act.put, List.setIfInBounds_toArray, List.set_cons_zero, List.set_cons_succ]
            refine wpAnyL_free (i := 18) (v := .pointer (some ⟨rg, k * 3, none⟩)) rfl (by kernel_rfl) (by kernel_rfl) (by kernel_rfl) (fun _ _ _ h => h) (Or.inl ⟨by rfl, fun w _ => by have c0 := hki; go_simp⟩) ?_
            try simp only [List.getElem_toArray, List.getElem_cons_zero, List.getElem_cons_succ, Act.put, List.setIfInBounds_toArray, List.set_cons_zero, List.set_cons_succ]
            refine wpAnyL_free (i := 19) (v := .pointer (some ⟨rg, k * 3 + 2, none⟩)) rfl (by kernel_rfl) (by kernel_rfl) (by kernel_rfl) (fun _ _ _ h => h) (Or.inl ⟨by rfl, fun w _ => by go_simp⟩) ?_
            try simp only [List.getElem_toArray, List.getElem_cons_zero, List.getElem_cons_succ, Act.put, List.setIfInBounds_toArray, List.set_cons_zero, List.set_cons_succ]
            refine wpAnyL_take (i := 20) (v := .int .u8 (c : Nat)) rfl (by kernel_rfl) (by kernel_rfl) (by kernel_rfl) (by kernel_rfl) (by kernel_rfl) (fun _ _ _ h => h) (Or.inl ⟨by rfl, fun w hSw => by have c := Kept.cellOf hSw b2 HRN.out; go_simp⟩) h0 ?_
            try simp only [List.getElem_toArray, List.getElem_cons_zero, List.getElem_cons_succ, Act.put, List.setIfInBounds_toArray, List.set_cons_zero, List.set_cons_succ]
            refine wpAnyL_free (i := 21) (v := .int .u8 ((c : Int) + 1)) rfl (by kernel_rfl) (by kernel_rfl) (by kernel_rfl) (fun _ _ _ h => h) (Or.inl ⟨by rfl, fun w _ => by have c0 := hw; go_simp⟩) ?_
            try simp only [List.getElem_toArray, List.getElem_cons_zero, List.getElem_cons_succ, Act.put, List.setIfInBounds_toArray, List.set_cons_zero, List.set_cons_succ]
            obtain ⟨g2, c2, w2, rg', hrg', hrun, ⟨u, hu⟩, hfz, hkb, hst⟩ := HG.out.half.grow1 hlt 23 _ 1 Try.underlying23 Try.infoByte9 rfl (by omega) k0 [.int .u8 ((c : Int) + 1)] rfl (by simp [Value.oneCell']) (by rw [HN.out]; omega) (by rw [HN.out]; omega) HBB.out (by decide)
            rw [HRO.out] at hrg'
            cases hrg'
            rw [HLV.out, HN.out] at hrun
            rw [HBL.out] at hkb
            rw [HN.out] at hst
            have HST := hide hst
            clear hst
            refine wpAnyL_one (i := 22) (by kernel_rfl) rfl (fun K' hK => ?_)
            rw [if_pos (by rfl)]
            go_simp
            refine hK.out _ _ (fun _ _ => h0.alloc _) ?_
            clear hK K'
            try simp only [List.getElem_toArray, List.getElem_cons_zero, List.getElem_cons_succ, Act.put, List.setIfInBounds_toArray, List.set_cons_zero, List.set_cons_succ]
            refine wpAnyL_one (i := 23) (by kernel_rfl) rfl (fun K' hK => ?_)
            rw [if_pos (by rfl)]
            refine wp_append_run (.tmp 39) (.tmp 49) 23 rfl (.slice go n gc) (.slice (some ⟨v0.heap.size, 0, none⟩) 1 1) rfl rfl (.slice (some ⟨g2, 0, none⟩) (n + 1) c2) w2 hrun ?_
            refine hK.out _ _ (fun _ _ => hkb) ?_
            clear hK K' hrun
            try simp only [List.getElem_toArray, List.getElem_cons_zero, List.getElem_cons_succ, Act.put, List.setIfInBounds_toArray, List.set_cons_zero, List.set_cons_succ]
            refine wpAnyL_free (i := 24) (v := .pointer (some ⟨rg, k * 3, none⟩)) rfl (by kernel_rfl) (by kernel_rfl) (by kernel_rfl) (fun _ _ _ h => h) (Or.inl ⟨by rfl, fun w _ => by have c0 := hki; go_simp⟩) ?_
            try simp only [List.getElem_toArray, List.getElem_cons_zero, List.getElem_cons_succ, Act.put, List.setIfInBounds_toArray, List.set_cons_zero, List.set_cons_succ]
            refine wpAnyL_free (i := 25) (v := .pointer (some ⟨rg, k * 3 + 1, none⟩)) rfl (by kernel_rfl) (by kernel_rfl) (by kernel_rfl) (fun _ _ _ h => h) (Or.inl ⟨by rfl, fun w _ => by go_simp⟩) ?_
            try simp only [List.getElem_toArray, List.getElem_cons_zero, List.getElem_cons_succ, Act.put, List.setIfInBounds_toArray, List.set_cons_zero, List.set_cons_succ]
            refine wpAnyL_one (i := 26) (by kernel_rfl) rfl (fun K' hK => ?_)
            rw [if_pos (by rfl)]
            go_simp
            refine hK.out _ _ (fun _ h => by cases h) ?_
            clear hK K'
            try simp only [List.getElem_toArray, List.getElem_cons_zero, List.getElem_cons_succ, Act.put, List.setIfInBounds_toArray, List.set_cons_zero, List.set_cons_succ]
            refine wpAnyL_done (by kernel_rfl) ?_ _
            obtain ⟨w3, hw3⟩ : ∃ w3, w2.setCell ⟨rg, k * 3 + 1, none⟩ (.slice (some ⟨g2, 0, none⟩) (n + 1) c2) = w3 := ⟨_, rfl⟩
            have HG3 : Hid (∃ lf' R', GB w w3 B K M m1 h lf en E (.slice ro E rc) cs k (i + 1) lf' R') := by
              have h5 := HST.out w3 hw3
              rw [← HN.out, ← HCM.out] at h5
              exact HG.out.step hlt hi64 h5
            have HB3 : Hid (B ≤ w3.heap.size) := by
              have h5 := (HST.out w3 hw3).2.1.bel.size
              exact Nat.le_trans HBB.out h5
            rw [hw3]
            clear hw3 HST hu hfz h0 k0 hkb b1 b2 kc HG
            go_wp2
            go_roundw
            case rel => exact ⟨i + 1, by omega, by go_num, HG3, HB3⟩
            case measure => simp [intOf]; omega
        · as_aux_lemma =>
          have e1 : i = N := by omega
          have q1 : ¬ (i : Int) < 2 := by rw [e1, ← hN]; split <;> omega
          have q1d : decide ((i : Int) < 2) = false := by simp; omega
          have q1n : decide (i < 2) = false := by simp; omega
          have HGN : Hid (∃ lf' R', GB w wr B K M m1 h lf en E (.slice ro E rc) cs (k + 1) 0 lf' R') := by
            obtain ⟨lf', R', hG⟩ := HGE.out
            exact ⟨lf', R', hG.next⟩
          clear HGE
          by_cases h64 : k < 64
          · have q2 : (k : Int) < 64 := by omega
            have q3 : ¬ (i : Int) < 64 := by rw [e1, ← hN, if_pos h64]; omega
            have q3d : decide ((i : Int) < 64) = false := by simp; omega
            have q3n : decide (i < 64) = false := by simp; omega
            have q2d : decide ((k : Int) < 64) = true := by simp; omega
            have q2n : decide (k < 64) = true := by simp; omega
            go_wp2
            go_roundw
            case rel => exact ⟨k + 1, by omega, by go_num, HGN, HBB⟩
            case measure => simp [intOf]; omega
          · have q2 : ¬ (k : Int) < 64 := by omega
            have q2d : decide ((k : Int) < 64) = false := by simp; omega
            have q2n : decide (k < 64) = false := by simp; omega
            go_wp2
            go_roundw
            case rel => exact ⟨k + 1, by omega, by go_num, HGN, HBB⟩
            case measure => simp [intOf]; omega
    · have hki : ¬ (k : Int) < (E : Int) := by omega
      obtain ⟨lf1, R1', hG1⟩ := HGE.out
      have HE1 := hide hG1
      have HG1 : Hid (∃ lf' R', GL wr wr B K M m2 h2 lf2 en2 E2 (.slice so E2 sc) cs 0 0 lf' R') := ⟨lf2, R2, (HHL.out.chg hG1.chg (by decide) (by decide)), HV2.out, hG1.cell, Chg.refl _ _ _, HCL.out, fun j _ hj => by have := HML.out _ (HHL.out.lt j hj); split <;> omega, fun x hx => by have := HML.out x hx; omega, fun x _ => rfl⟩
      have HB1 := HBB
      have HFIN : Hid (∀ w' k' lf2' R2', GL wr w' B K M m2 h2 lf2 en2 E2 (.slice so E2 sc) cs k' 0 lf2' R2' → GrowOk w w' B K M m1 h lf en E m2 h2 lf2 en2 E2) := fun w' k' lf2' R2' hL => by
        refine ⟨lf1, R1', lf2', R2', ⟨by rw [hL.cell, HCS.out, HE1.out.val, hL.val], HKB.out⟩, HE1.out.half.chg hL.chg (by decide) (by decide), hL.half, HE1.out.con, hL.con, HE1.out.all, hL.all, HE1.out.far, hL.far, (HE1.out.chg.mono (by simp)).trans (hL.chg.mono (by simp))⟩
      clear hG1 HGE
      obtain ⟨w1, hw1⟩ : ∃ w1, w1 = wr := ⟨_, rfl⟩
      rw [← hw1] at HG1 HB1 HFIN kc ⊢
      clear hw1
      go_upto_region 8 with (fail)
      clear kc
      go_loopw [4] (fun y wr => ∃ k : Nat, k ≤ E2 ∧ y = .int .i64 k ∧ Hid (∃ lf' R', GL w1 wr B K M m2 h2 lf2 en2 E2 (.slice so E2 sc) cs k 0 lf' R') ∧ Hid (B ≤ wr.heap.size)) (fun y wr => E2 - (intOf y).toNat)
      case atStart => exact ⟨0, Nat.zero_le _, rfl, HG1, HB1⟩
      case round =>
        obtain ⟨k, hk, rfl, HGE, HBB⟩ := hrel
        obtain ⟨lf', R', hG⟩ := HGE.out
        have kc : wr.cell? ⟨K, 1, none⟩ = some (.slice so E2 sc) := by rw [cell_of_row _ _ _ _ _ _ hG.cell]; rw [HCS.out]; rfl
        by_cases hlt : k < E2
        · have hki : (k : Int) < (E2 : Int) := by omega
          clear hG
          obtain ⟨N, hN⟩ : ∃ N, (if k < 64 then 64 else 2) = N := ⟨_, rfl⟩
          have hN2 : N ≤ 64 := by rw [← hN]; split <;> omega
          go_upto_region 11 with (fail)
          go_loopw [5] (fun y wr => ∃ i : Nat, i ≤ N ∧ y = .int .i64 i ∧ Hid (∃ lf' R', GL w1 wr B K M m2 h2 lf2 en2 E2 (.slice so E2 sc) cs k i lf' R') ∧ Hid (B ≤ wr.heap.size)) (fun y wr => N - (intOf y).toNat)
          case atStart => exact ⟨0, Nat.zero_le _, rfl, HGE, HBB⟩
          case round =>
            clear HGE HBB kc
            obtain ⟨i, hi, rfl, HGE, HBB⟩ := hrel
            by_cases hlt2 : i < N
            · obtain ⟨lf', R', hG⟩ := HGE.out
              have HG := hide hG
              obtain ⟨rg, hro, a0, a1, a2⟩ := hG.half.at hlt
              have hval := hG.val
              have HRO : Hid (R'.o = some ⟨rg, 0, none⟩) := hro
              have ho : so = some ⟨rg, 0, none⟩ := by have h3 := hval; unfold Rw.val at h3; injection h3 with h4 _ _; rw [← h4]; exact hro
              obtain ⟨n, hn⟩ : ∃ n, (lf' (en2 k)).n = n := ⟨_, rfl⟩
              obtain ⟨go, hgo⟩ : ∃ go, (lf' (en2 k)).o = go := ⟨_, rfl⟩
              obtain ⟨gc, hgc⟩ : ∃ gc, (lf' (en2 k)).c = gc := ⟨_, rfl⟩
              have v2 : (lf' (en2 k)).val = .slice go n gc := by unfold Rw.val; rw [hgo, hn, hgc]
              have HLV : Hid ((lf' (en2 k)).val = .slice go n gc) := v2
              have HN : Hid ((lf' (en2 k)).n = n) := hn
              obtain ⟨bl, hbl⟩ : ∃ bl, (lf' (en2 k)).blk.toList = bl := ⟨_, rfl⟩
              have HBL := hide hbl
              have hown := hG.half.fam.own _ (hG.half.lt k hlt)
              have HKN : Hid (K ∉ bl) := fun hm => by rw [← hbl] at hm; exact hown.notIn hG.cell (by decide) (by simpa using hm)
              have HRN : Hid (rg ∉ bl) := fun hm => by
                rw [← hbl] at hm
                have hrb : R'.blk = some rg := by unfold Rw.blk Rw.val; rw [hro]; rfl
                exact own_types hown hG.half.row (by decide) rg (show (lf' (en2 k)).blk = some rg from by simpa using hm) hrb
              obtain ⟨c, hc⟩ : ∃ c, mkL k = c := ⟨_, rfl⟩
              have HCM := hide hc
              have b1 := a1
              rw [v2] at b1
              have b2 := a2
              have v3 : mkvL k = .int .i64 (c : Nat) := by unfold mkvL; rw [hc]
              rw [v3] at b2
              have kc : wr.cell? ⟨K, 1, none⟩ = some (.slice (some ⟨rg, 0, none⟩) E2 sc) := by rw [← ho, cell_of_row _ _ _ _ _ _ hG.cell]; rw [HCS.out]; rfl
              have hlow : c ≤ 300000000 := by rw [← hc]; unfold mkL; omega
              have hw : IntKind.i64.wrap ((c : Int) + 1) = (c : Int) + 1 := by rw [IntKind.wrap_i64]; omega
              have hnb : n ≤ 2000000000 := by rw [← hn]; have := hG.all _ (hG.half.lt k hlt); omega
              have hi64 : i < 64 := by omega
              have hcond : (decide ((i : Int) < 2) || (decide ((k : Int) < 64) && decide ((i : Int) < 64))) = true := by
                simp only [Bool.or_eq_true, Bool.and_eq_true, decide_eq_true_eq]
                rw [← hN] at hlt2
                split at hlt2 <;> omega
              clear a0 a1 a2 v2 v3 hro hval hn hgo hgc hc hG HGE hown hbl ho
              by_cases hi2 : i < 2
              · as_aux_lemma =>
                have q1 : (i : Int) < 2 := by omega
                have q1d : decide ((i : Int) < 2) = true := by simp; omega
                have q1n : decide (i < 2) = true := by simp; omega
                clear hcond
                go_upto_region 13 with (fail)
                refine wp_region_late (fun w' => Kept bl wr w') (fun i => i == 27) (by kernel_rfl) ?_
                have h0 : Kept bl wr wr.drew := (Kept.refl bl wr).drew
                have k0 : Kept [] wr wr.drew := (Kept.refl [] wr).drew
                generalize World.drew wr = v0 at h0 k0 ⊢
                refine wpAnyL_free (i := 0) (v := .pointer (some ⟨K, 0, none⟩)) rfl (by kernel_rfl) (by kernel_rfl) (by kernel_rfl) (fun _ _ _ h => h) (Or.inl ⟨by rfl, fun w _ => by go_simp⟩) ?_
                try simp only [List.getElem_toArray, List.getElem_cons_zero, List.getElem_cons_succ, Act.put, List.setIfInBounds_toArray, List.set_cons_zero, List.set_cons_succ]
                refine wpAnyL_free (i := 1) (v := .pointer (some ⟨K, 0, none⟩)) rfl (by kernel_rfl) (by kernel_rfl) (by kernel_rfl) (fun _ _ _ h => h) (Or.inl ⟨by rfl, fun w _ => by go_simp⟩) ?_
                try simp only [List.getElem_toArray, List.getElem_cons_zero, List.getElem_cons_succ, Act.put, List.setIfInBounds_toArray, List.set_cons_zero, List.set_cons_succ]
                refine wpAnyL_free (i := 2) (v := .pointer (some ⟨K, 1, none⟩)) rfl (by kernel_rfl) (by kernel_rfl) (by kernel_rfl) (fun _ _ _ h => h) (Or.inl ⟨by rfl, fun w _ => by go_simp⟩) ?_
                try simp only [List.getElem_toArray, List.getElem_cons_zero, List.getElem_cons_succ, Act.put, List.setIfInBounds_toArray, List.set_cons_zero, List.set_cons_succ]
                refine wpAnyL_take (i := 3) (v := (.slice (some ⟨rg, 0, none⟩) E2 sc)) rfl (by kernel_rfl) (by kernel_rfl) (by kernel_rfl) (by kernel_rfl) (by kernel_rfl) (fun _ _ _ h => h) (Or.inl ⟨by rfl, fun w hSw => by have c := Kept.cellOf hSw kc HKN.out; go_simp⟩) h0 ?_
                try simp only [List.getElem_toArray, List.getElem_cons_zero, List.getElem_cons_succ, Act.put, List.setIfInBounds_toArray, List.set_cons_zero, List.set_cons_succ]
                refine wpAnyL_free (i := 4) (v := .int .i64 k) rfl (by kernel_rfl) (by kernel_rfl) (by kernel_rfl) (fun _ _ _ h => h) (Or.inl ⟨by rfl, fun w _ => by go_simp⟩) ?_
                try simp only [List.getElem_toArray, List.getElem_cons_zero, List.getElem_cons_succ, Act.put, List.setIfInBounds_toArray, List.set_cons_zero, List.set_cons_succ]
                refine wpAnyL_free (i := 5) (v := .pointer (some ⟨K, 0, none⟩)) rfl (by kernel_rfl) (by kernel_rfl) (by kernel_rfl) (fun _ _ _ h => h) (Or.inl ⟨by rfl, fun w _ => by go_simp⟩) ?_
                try simp only [List.getElem_toArray, List.getElem_cons_zero, List.getElem_cons_succ, Act.put, List.setIfInBounds_toArray, List.set_cons_zero, List.set_cons_succ]
                refine wpAnyL_free (i := 6) (v := .pointer (some ⟨K, 0, none⟩)) rfl (by kernel_rfl) (by kernel_rfl) (by kernel_rfl) (fun _ _ _ h => h) (Or.inl ⟨by rfl, fun w _ => by go_simp⟩) ?_
                try simp only [List.getElem_toArray, List.getElem_cons_zero, List.getElem_cons_succ, Act.put, List.setIfInBounds_toArray, List.set_cons_zero, List.set_cons_succ]
                refine wpAnyL_free (i := 7) (v := .pointer (some ⟨K, 1, none⟩)) rfl (by kernel_rfl) (by kernel_rfl) (by kernel_rfl) (fun _ _ _ h => h) (Or.inl ⟨by rfl, fun w _ => by go_simp⟩) ?_
                try simp only [List.getElem_toArray, List.getElem_cons_zero, List.getElem_cons_succ, Act.put, List.setIfInBounds_toArray, List.set_cons_zero, List.set_cons_succ]
                refine wpAnyL_take (i := 8) (v := (.slice (some ⟨rg, 0, none⟩) E2 sc)) rfl (by kernel_rfl) (by kernel_rfl) (by kernel_rfl) (by kernel_rfl) (by kernel_rfl) (fun _ _ _ h => h) (Or.inl ⟨by rfl, fun w hSw => by have c := Kept.cellOf hSw kc HKN.out; go_simp⟩) h0 ?_
                try simp only [List.getElem_toArray, List.getElem_cons_zero, List.getElem_cons_succ, Act.put, List.setIfInBounds_toArray, List.set_cons_zero, List.set_cons_succ]
                refine wpAnyL_free (i := 9) (v := .int .i64 k) rfl (by kernel_rfl) (by kernel_rfl) (by kernel_rfl) (fun _ _ _ h => h) (Or.inl ⟨by rfl, fun w _ => by go_simp⟩) ?_
                try simp only [List.getElem_toArray, List.getElem_cons_zero, List.getElem_cons_succ, Act.put, List.setIfInBounds_toArray, List.set_cons_zero, List.set_cons_succ]
                refine wpAnyL_free (i := 13) (v := .pointer (some ⟨K, 0, none⟩)) rfl (by kernel_rfl) (by kernel_rfl) (by kernel_rfl) (fun _ _ _ h => h) (Or.inl ⟨by rfl, fun w _ => by go_simp⟩) ?_
                try simp only [List.getElem_toArray, List.getElem_cons_zero, List.getElem_cons_succ, Act.put, List.setIfInBounds_toArray, List.set_cons_zero, List.set_cons_succ]
                refine wpAnyL_free (i := 14) (v := .pointer (some ⟨K, 0, none⟩)) rfl (by kernel_rfl) (by kernel_rfl) (by kernel_rfl) (fun _ _ _ h => h) (Or.inl ⟨by rfl, fun w _ => by go_simp⟩) ?_
                try simp only [List.getElem_toArray, List.getElem_cons_zero, List.getElem_cons_succ, Act.put, List.setIfInBounds_toArray, List.set_cons_zero, List.set_cons_succ]
                refine wpAnyL_free (i := 15) (v := .pointer (some ⟨K, 1, none⟩)) rfl (by kernel_rfl) (by kernel_rfl) (by kernel_rfl) (fun _ _ _ h => h) (Or.inl ⟨by rfl, fun w _ => by go_simp⟩) ?_
                try simp only [List.getElem_toArray, List.getElem_cons_zero, List.getElem_cons_succ, Act.put, List.setIfInBounds_toArray, List.set_cons_zero, List.set_cons_succ]
                refine wpAnyL_take (i := 16) (v := (.slice (some ⟨rg, 0, none⟩) E2 sc)) rfl (by kernel_rfl) (by kernel_rfl) (by kernel_rfl) (by kernel_rfl) (by kernel_rfl) (fun _ _ _ h => h) (Or.inl ⟨by rfl, fun w hSw => by have c := Kept.cellOf hSw kc HKN.out; go_simp⟩) h0 ?_
                try simp only [List.getElem_toArray, List.getElem_cons_zero, List.getElem_cons_succ, Act.put, List.setIfInBounds_toArray, List.set_cons_zero, List.set_cons_succ]
                refine wpAnyL_free (i := 17) (v := .int .i64 k) rfl (by kernel_rfl) (by kernel_rfl) (by kernel_rfl) (fun _ _ _ h => h) (Or.inl ⟨by rfl, fun w _ => by go_simp⟩) ?_
                try simp only [List.getElem_toArray, List.getElem_cons_zero, List.getElem_cons_succ, Act.put, List.setIfInBounds_toArray, List.set_cons_zero, List.set_cons_succ]
                refine wpAnyL_free (i := 10) (v := .pointer (some ⟨rg, k * 3, none⟩)) rfl (by kernel_rfl) (by kernel_rfl) (by kernel_rfl) (fun _ _ _ h => h) (Or.inl ⟨by rfl, fun w _ => by have c0 := hki; go_simp⟩) ?_
                try simp only [List.getElem_toArray, List.getElem_cons_zero, List.getElem_cons_succ, Act.put, List.setIfInBounds_toArray, List.set_cons_zero, List.set_cons_succ]
                refine wpAnyL_free (i := 11) (v := .pointer (some ⟨rg, k * 3 + 1, none⟩)) rfl (by kernel_rfl) (by kernel_rfl) (by kernel_rfl) (fun _ _ _ h => h) (Or.inl ⟨by rfl, fun w _ => by go_simp⟩) ?_
                try simp only [List.getElem_toArray, List.getElem_cons_zero, List.getElem_cons_succ, Act.put, List.setIfInBounds_toArray, List.set_cons_zero, List.set_cons_succ]
                refine wpAnyL_take (i := 12) (v := (.slice go n gc)) rfl (by kernel_rfl) (by kernel_rfl) (by kernel_rfl) (by kernel_rfl) (by kernel_rfl) (fun _ _ _ h => h) (Or.inl ⟨by rfl, fun w hSw => by have c := Kept.cellOf hSw b1 HRN.out; go_simp⟩) h0 ?_
                try simp only [List.getElem_toArray, List.getElem_cons_zero, List.getElem_cons_succ, Act.put, List.setIfInBounds_toArray, List.set_cons_zero, List.set_cons_succ]
                refine wpAnyL_free (i := 18) (v := .pointer (some ⟨rg, k * 3, none⟩)) rfl (by kernel_rfl) (by kernel_rfl) (by kernel_rfl) (fun _ _ _ h => h) (Or.inl ⟨by rfl, fun w _ => by have c0 := hki; go_simp⟩) ?_
                try simp only [List.getElem_toArray, List.getElem_cons_zero, List.getElem_cons_succ, Act.put, List.setIfInBounds_toArray, List.set_cons_zero, List.set_cons_succ]
                refine wpAnyL_free (i := 19) (v := .pointer (some ⟨rg, k * 3 + 2, none⟩)) rfl (by kernel_rfl) (by kernel_rfl) (by kernel_rfl) (fun _ _ _ h => h) (Or.inl ⟨by rfl, fun w _ => by go_simp⟩) ?_
                try simp only [List.getElem_toArray, List.getElem_cons_zero, List.getElem_cons_succ, Act.put, List.setIfInBounds_toArray, List.set_cons_zero, List.set_cons_succ]
                refine wpAnyL_take (i := 20) (v := .int .i64 (c : Nat)) rfl (by kernel_rfl) (by kernel_rfl) (by kernel_rfl) (by kernel_rfl) (by kernel_rfl) (fun _ _ _ h => h) (Or.inl ⟨by rfl, fun w hSw => by have c := Kept.cellOf hSw b2 HRN.out; go_simp⟩) h0 ?_
                try simp only [List.getElem_toArray, List.getElem_cons_zero, List.getElem_cons_succ, Act.put, List.setIfInBounds_toArray, List.set_cons_zero, List.set_cons_succ]
                refine wpAnyL_free (i := 21) (v := .int .i64 ((c : Int) + 1)) rfl (by kernel_rfl) (by kernel_rfl) (by kernel_rfl) (fun _ _ _ h => h) (Or.inl ⟨by rfl, fun w _ => by have c0 := hw; go_simp⟩) ?_
                try simp only [List.getElem_toArray, List.getElem_cons_zero, List.getElem_cons_succ, Act.put, List.setIfInBounds_toArray, List.set_cons_zero, List.set_cons_succ]
                refine wpAnyL_free (i := 22) (v := .agg #[.int .i64 ((c : Int) + 1), .int .i64 0, .int .i64 0, .int .i64 0]) rfl (by kernel_rfl) (by kernel_rfl) (by kernel_rfl) (fun _ _ _ h => h) (Or.inl ⟨by rfl, fun w _ => by have c0 := hzb; go_simp⟩) ?_
                try simp only [List.getElem_toArray, List.getElem_cons_zero, List.getElem_cons_succ, Act.put, List.setIfInBounds_toArray, List.set_cons_zero, List.set_cons_succ]
                obtain ⟨g2, c2, w2, rg', hrg', hrun, ⟨u, hu⟩, hfz, hkb, hst⟩ := HG.out.half.grow1 hlt 30 _ 32 Try.underlying30 Try.infoBlk3 rfl (by omega) k0 [.int .i64 ((c : Int) + 1), .int .i64 0, .int .i64 0, .int .i64 0] rfl (by simp [Value.oneCell']) (by rw [HN.out]; omega) (by rw [HN.out]; omega) HBB.out (by decide)
                rw [HRO.out] at hrg'
                cases hrg'
                rw [HLV.out, HN.out] at hrun
                rw [HBL.out] at hkb
                rw [HN.out] at hst
                have HST := hide hst
                clear hst
                refine wpAnyL_one (i := 23) (by kernel_rfl) rfl (fun K' hK => ?_)
                rw [if_pos (by rfl)]
                go_simp
                refine hK.out _ _ (fun _ _ => h0.alloc _) ?_
                clear hK K'
                try simp only [List.getElem_toArray, List.getElem_cons_zero, List.getElem_cons_succ, Act.put, List.setIfInBounds_toArray, List.set_cons_zero, List.set_cons_succ]
                refine wpAnyL_one (i := 24) (by kernel_rfl) rfl (fun K' hK => ?_)
                rw [if_pos (by rfl)]
                refine wp_append_run (.tmp 86) (.tmp 97) 30 rfl (.slice go n gc) (.slice (some ⟨v0.heap.size, 0, none⟩) 1 1) rfl rfl (.slice (some ⟨g2, 0, none⟩) (n + 1) c2) w2 hrun ?_
                refine hK.out _ _ (fun _ _ => hkb) ?_
                clear hK K' hrun
                try simp only [List.getElem_toArray, List.getElem_cons_zero, List.getElem_cons_succ, Act.put, List.setIfInBounds_toArray, List.set_cons_zero, List.set_cons_succ]
                refine wpAnyL_free (i := 25) (v := .pointer (some ⟨rg, k * 3, none⟩)) rfl (by kernel_rfl) (by kernel_rfl) (by kernel_rfl) (fun _ _ _ h => h) (Or.inl ⟨by rfl, fun w _ => by have c0 := hki; go_simp⟩) ?_
                try simp only [List.getElem_toArray, List.getElem_cons_zero, List.getElem_cons_succ, Act.put, List.setIfInBounds_toArray, List.set_cons_zero, List.set_cons_succ]
                refine wpAnyL_free (i := 26) (v := .pointer (some ⟨rg, k * 3 + 1, none⟩)) rfl (by kernel_rfl) (by kernel_rfl) (by kernel_rfl) (fun _ _ _ h => h) (Or.inl ⟨by rfl, fun w _ => by go_simp⟩) ?_
                try simp only [List.getElem_toArray, List.getElem_cons_zero, List.getElem_cons_succ, Act.put, List.setIfInBounds_toArray, List.set_cons_zero, List.set_cons_succ]
                refine wpAnyL_one (i := 27) (by kernel_rfl) rfl (fun K' hK => ?_)
                rw [if_pos (by rfl)]
                go_simp
                refine hK.out _ _ (fun _ h => by cases h) ?_
                clear hK K'
                try simp only [List.getElem_toArray, List.getElem_cons_zero, List.getElem_cons_succ, Act.put, List.setIfInBounds_toArray, List.set_cons_zero, List.set_cons_succ]
                refine wpAnyL_done (by kernel_rfl) ?_ _
                obtain ⟨w3, hw3⟩ : ∃ w3, w2.setCell ⟨rg, k * 3 + 1, none⟩ (.slice (some ⟨g2, 0, none⟩) (n + 1) c2) = w3 := ⟨_, rfl⟩
                have HG3 : Hid (∃ lf' R', GL w1 w3 B K M m2 h2 lf2 en2 E2 (.slice so E2 sc) cs k (i + 1) lf' R') := by
                  have h5 := HST.out w3 hw3
                  rw [← HN.out, ← HCM.out] at h5
                  exact HG.out.step hlt hi64 h5
                have HB3 : Hid (B ≤ w3.heap.size) := by
                  have h5 := (HST.out w3 hw3).2.1.bel.size
                  exact Nat.le_trans HBB.out h5
                rw [hw3]
                clear hw3 HST hu hfz h0 k0 hkb b1 b2 kc HG
                go_wp2
                go_roundw
                case rel => exact ⟨i + 1, by omega, by go_num, HG3, HB3⟩
                case measure => simp [intOf]; omega
              · as_aux_lemma =>
                have q1 : ¬ (i : Int) < 2 := by omega
                have q1d : decide ((i : Int) < 2) = false := by simp; omega
                have q1n : decide (i < 2) = false := by simp; omega
                have q2 : (k : Int) < 64 := by rw [← hN] at hlt2; split at hlt2 <;> omega
                have q3 : (i : Int) < 64 := by omega
                have q2d : decide ((k : Int) < 64) = true := by simp; omega
                have q2n : decide (k < 64) = true := by simp; omega
                have q3d : decide ((i : Int) < 64) = true := by simp; omega
                have q3n : decide (i < 64) = true := by simp; omega
                clear hcond
                go_upto_region 13 with (fail)
                refine wp_region_late (fun w' => Kept bl wr w') (fun i => i == 27) (by kernel_rfl) ?_
                have h0 : Kept bl wr wr.drew := (Kept.refl bl wr).drew
                have k0 : Kept [] wr wr.drew := (Kept.refl [] wr).drew
                generalize World.drew wr = v0 at h0 k0 ⊢
                refine wpAnyL_free (i := 0) (v := .pointer (some ⟨K, 0, none⟩)) rfl (by kernel_rfl) (by kernel_rfl) (by kernel_rfl) (fun _ _ _ h => h) (Or.inl ⟨by rfl, fun w _ => by go_simp⟩) ?_
                try simp only [List.getElem_toArray, List.getElem_cons_zero, List.getElem_cons_succ, Act.put, List.setIfInBounds_toArray, List.set_cons_zero, List.set_cons_succ]
                refine wpAnyL_free (i := 1) (v := .pointer (some ⟨K, 0, none⟩)) rfl (by kernel_rfl) (by kernel_rfl) (by kernel_rfl) (fun _ _ _ h => h) (Or.inl ⟨by rfl, fun w _ => by go_simp⟩) ?_
                try simp only [List.getElem_toArray, List.getElem_cons_zero, List.getElem_cons_succ, Act.put, List.setIfInBounds_toArray, List.set_cons_zero, List.set_cons_succ]
                refine wpAnyL_free (i := 2) (v := .pointer (some ⟨K, 1, none⟩)) rfl (by kernel_rfl) (by kernel_rfl) (by kernel_rfl) (fun _ _ _ h => h) (Or.inl ⟨by rfl, fun w _ => by go_simp⟩) ?_
                try simp only [List.getElem_toArray, List.getElem_cons_zero, List.getElem_cons_succ, Act.put, List.setIfInBounds_toArray, List.set_cons_zero, List.set_cons_succ]
                refine wpAnyL_take (i := 3) (v := (.slice (some ⟨rg, 0, none⟩) E2 sc)) rfl (by kernel_rfl) (by kernel_rfl) (by kernel_rfl) (by kernel_rfl) (by kernel_rfl) (fun _ _ _ h => h) (Or.inl ⟨by rfl, fun w hSw => by have c := Kept.cellOf hSw kc HKN.out; go_simp⟩) h0 ?_
                try simp only [List.getElem_toArray, List.getElem_cons_zero, List.getElem_cons_succ, Act.put, List.setIfInBounds_toArray, List.set_cons_zero, List.set_cons_succ]
                refine wpAnyL_free (i := 4) (v := .int .i64 k) rfl (by kernel_rfl) (by kernel_rfl) (by kernel_rfl) (fun _ _ _ h => h) (Or.inl ⟨by rfl, fun w _ => by go_simp⟩) ?_
                try simp only [List.getElem_toArray, List.getElem_cons_zero, List.getElem_cons_succ, Act.put, List.setIfInBounds_toArray, List.set_cons_zero, List.set_cons_succ]
                refine wpAnyL_free (i := 5) (v := .pointer (some ⟨K, 0, none⟩)) rfl (by kernel_rfl) (by kernel_rfl) (by kernel_rfl) (fun _ _ _ h => h) (Or.inl ⟨by rfl, fun w _ => by go_simp⟩) ?_
                try simp only [List.getElem_toArray, List.getElem_cons_zero, List.getElem_cons_succ, Act.put, List.setIfInBounds_toArray, List.set_cons_zero, List.set_cons_succ]
                refine wpAnyL_free (i := 6) (v := .pointer (some ⟨K, 0, none⟩)) rfl (by kernel_rfl) (by kernel_rfl) (by kernel_rfl) (fun _ _ _ h => h) (Or.inl ⟨by rfl, fun w _ => by go_simp⟩) ?_
                try simp only [List.getElem_toArray, List.getElem_cons_zero, List.getElem_cons_succ, Act.put, List.setIfInBounds_toArray, List.set_cons_zero, List.set_cons_succ]
                refine wpAnyL_free (i := 7) (v := .pointer (some ⟨K, 1, none⟩)) rfl (by kernel_rfl) (by kernel_rfl) (by kernel_rfl) (fun _ _ _ h => h) (Or.inl ⟨by rfl, fun w _ => by go_simp⟩) ?_
                try simp only [List.getElem_toArray, List.getElem_cons_zero, List.getElem_cons_succ, Act.put, List.setIfInBounds_toArray, List.set_cons_zero, List.set_cons_succ]
                refine wpAnyL_take (i := 8) (v := (.slice (some ⟨rg, 0, none⟩) E2 sc)) rfl (by kernel_rfl) (by kernel_rfl) (by kernel_rfl) (by kernel_rfl) (by kernel_rfl) (fun _ _ _ h => h) (Or.inl ⟨by rfl, fun w hSw => by have c := Kept.cellOf hSw kc HKN.out; go_simp⟩) h0 ?_
                try simp only [List.getElem_toArray, List.getElem_cons_zero, List.getElem_cons_succ, Act.put, List.setIfInBounds_toArray, List.set_cons_zero, List.set_cons_succ]
                refine wpAnyL_free (i := 9) (v := .int .i64 k) rfl (by kernel_rfl) (by kernel_rfl) (by kernel_rfl) (fun _ _ _ h => h) (Or.inl ⟨by rfl, fun w _ => by go_simp⟩) ?_
                try simp only [List.getElem_toArray, List.getElem_cons_zero, List.getElem_cons_succ, Act.put, List.setIfInBounds_toArray, List.set_cons_zero, List.set_cons_succ]
                refine wpAnyL_free (i := 13) (v := .pointer (some ⟨K, 0, none⟩)) rfl (by kernel_rfl) (by kernel_rfl) (by kernel_rfl) (fun _ _ _ h => h) (Or.inl ⟨by rfl, fun w _ => by go_simp⟩) ?_
                try simp only [List.getElem_toArray, List.getElem_cons_zero, List.getElem_cons_succ, Act.put, List.setIfInBounds_toArray, List.set_cons_zero, List.set_cons_succ]
                refine wpAnyL_free (i := 14) (v := .pointer (some ⟨K, 0, none⟩)) rfl (by kernel_rfl) (by kernel_rfl) (by kernel_rfl) (fun _ _ _ h => h) (Or.inl ⟨by rfl, fun w _ => by go_simp⟩) ?_
                try simp only [List.getElem_toArray, List.getElem_cons_zero, List.getElem_cons_succ, Act.put, List.setIfInBounds_toArray, List.set_cons_zero, List.set_cons_succ]
                refine wpAnyL_free (i := 15) (v := .pointer (some ⟨K, 1, none⟩)) rfl (by kernel_rfl) (by kernel_rfl) (by kernel_rfl) (fun _ _ _ h => h) (Or.inl ⟨by rfl, fun w _ => by go_simp⟩) ?_
                try simp only [List.getElem_toArray, List.getElem_cons_zero, List.getElem_cons_succ, Act.put, List.setIfInBounds_toArray, List.set_cons_zero, List.set_cons_succ]
                refine wpAnyL_take (i := 16) (v := (.slice (some ⟨rg, 0, none⟩) E2 sc)) rfl (by kernel_rfl) (by kernel_rfl) (by kernel_rfl) (by kernel_rfl) (by kernel_rfl) (fun _ _ _ h => h) (Or.inl ⟨by rfl, fun w hSw => by have c := Kept.cellOf hSw kc HKN.out; go_simp⟩) h0 ?_
                try simp only [List.getElem_toArray, List.getElem_cons_zero, List.getElem_cons_succ, Act.put, List.setIfInBounds_toArray, List.set_cons_zero, List.set_cons_succ]
                refine wpAnyL_free (i := 17) (v := .int .i64 k) rfl (by kernel_rfl) (by kernel_rfl) (by kernel_rfl) (fun _ _ _ h => h) (Or.inl ⟨by rfl, fun w _ => by go_simp⟩) ?_
                try simp only [List.getElem_toArray, List.getElem_cons_zero, List.getElem_cons_succ, Act.put, List.setIfInBounds_toArray, List.set_cons_zero, List.set_cons_succ]
                refine wpAnyL_free (i := 10) (v := .pointer (some ⟨rg, k * 3, none⟩)) rfl (by kernel_rfl) (by kernel_rfl) (by kernel_rfl) (fun _ _ _ h => h) (Or.inl ⟨by rfl, fun w _ => by have c0 := hki; go_simp⟩) ?_
                try simp only [List.getElem_toArray, List.getElem_cons_zero, List.getElem_cons_succ, Act.put, List.setIfInBounds_toArray, List.set_cons_zero, List.set_cons_succ]
                refine wpAnyL_free (i := 11) (v := .pointer (some ⟨rg, k * 3 + 1, none⟩)) rfl (by kernel_rfl) (by kernel_rfl) (by kernel_rfl) (fun _ _ _ h => h) (Or.inl ⟨by rfl, fun w _ => by go_simp⟩) ?_
                try simp only [List.getElem_toArray, List.getElem_cons_zero, List.getElem_cons_succ, Act.put, List.setIfInBounds_toArray, List.set_cons_zero, List.set_cons_succ]
                refine wpAnyL_take (i := 12) (v := (.slice go n gc)) rfl (by kernel_rfl) (by kernel_rfl) (by kernel_rfl) (by kernel_rfl) (by kernel_rfl) (fun _ _ _ h => h) (Or.inl ⟨by rfl, fun w hSw => by have c := Kept.cellOf hSw b1 HRN.out; go_simp⟩) h0 ?_
                try simp only [List.getElem_toArray, List.getElem_cons_zero, List.getElem_cons_succ, Act.put, List.setIfInBounds_toArray, List.set_cons_zero, List.set_cons_succ]
                refine wpAnyL_free (i := 18) (v := .pointer (some ⟨rg, k * 3, none⟩)) rfl (by kernel_rfl) (by kernel_rfl) (by kernel_rfl) (fun _ _ _ h => h) (Or.inl ⟨by rfl, fun w _ => by have c0 := hki; go_simp⟩) ?_
                try simp only [List.getElem_toArray, List.getElem_cons_zero, List.getElem_cons_succ, Act.put, List.setIfInBounds_toArray, List.set_cons_zero, List.set_cons_succ]
                refine wpAnyL_free (i := 19) (v := .pointer (some ⟨rg, k * 3 + 2, none⟩)) rfl (by kernel_rfl) (by kernel_rfl) (by kernel_rfl) (fun _ _ _ h => h) (Or.inl ⟨by rfl, fun w _ => by go_simp⟩) ?_
                try simp only [List.getElem_toArray, List.getElem_cons_zero, List.getElem_cons_succ, Act.put, List.setIfInBounds_toArray, List.set_cons_zero, List.set_cons_succ]
                refine wpAnyL_take (i := 20) (v := .int .i64 (c : Nat)) rfl (by kernel_rfl) (by kernel_rfl) (by kernel_rfl) (by kernel_rfl) (by kernel_rfl) (fun _ _ _ h => h) (Or.inl ⟨by rfl, fun w hSw => by have c := Kept.cellOf hSw b2 HRN.out; go_simp⟩) h0 ?_
                try simp only [List.getElem_toArray, List.getElem_cons_zero, List.getElem_cons_succ, Act.put, List.setIfInBounds_toArray, List.set_cons_zero, List.set_cons_succ]
                refine wpAnyL_free (i := 21) (v := .int .i64 ((c : Int) + 1)) rfl (by kernel_rfl) (by kernel_rfl) (by kernel_rfl) (fun _ _ _ h => h) (Or.inl ⟨by rfl, fun w _ => by have c0 := hw; go_simp⟩) ?_
                try simp only [List.getElem_toArray, List.getElem_cons_zero, List.getElem_cons_succ, Act.put, List.setIfInBounds_toArray, List.set_cons_zero, List.set_cons_succ]
                refine wpAnyL_free (i := 22) (v := .agg #[.int .i64 ((c : Int) + 1), .int .i64 0, .int .i64 0, .int .i64 0]) rfl (by kernel_rfl) (by kernel_rfl) (by kernel_rfl) (fun _ _ _ h => h) (Or.inl ⟨by rfl, fun w _ => by have c0 := hzb; go_simp⟩) ?_
                try simp only [List.getElem_toArray, List.getElem_cons_zero, List.getElem_cons_succ, Act.put, List.setIfInBounds_toArray, List.set_cons_zero, List.set_cons_succ]
                obtain ⟨g2, c2, w2, rg', hrg', hrun, ⟨u, hu⟩, hfz, hkb, hst⟩ := HG.out.half.grow1 hlt 30 _ 32 Try.underlying30 Try.infoBlk3 rfl (by omega) k0 [.int .i64 ((c : Int) + 1), .int .i64 0, .int .i64 0, .int .i64 0] rfl (by simp [Value.oneCell']) (by rw [HN.out]; omega) (by rw [HN.out]; omega) HBB.out (by decide)
                rw [HRO.out] at hrg'
                cases hrg'
                rw [HLV.out, HN.out] at hrun
                rw [HBL.out] at hkb
                rw [HN.out] at hst
                have HST := hide hst
                clear hst
                refine wpAnyL_one (i := 23) (by kernel_rfl) rfl (fun K' hK => ?_)
                rw [if_pos (by rfl)]
                go_simp
                refine hK.out _ _ (fun _ _ => h0.alloc _) ?_
                clear hK K'
                try simp only [List.getElem_toArray, List.getElem_cons_zero, List.getElem_cons_succ, Act.put, List.setIfInBounds_toArray, List.set_cons_zero, List.set_cons_succ]
                refine wpAnyL_one (i := 24) (by kernel_rfl) rfl (fun K' hK => ?_)
                rw [if_pos (by rfl)]
                refine wp_append_run (.tmp 86) (.tmp 97) 30 rfl (.slice go n gc) (.slice (some ⟨v0.heap.size, 0, none⟩) 1 1) rfl rfl (.slice (some ⟨g2, 0, none⟩) (n + 1) c2) w2 hrun ?_
                refine hK.out _ _ (fun _ _ => hkb) ?_
                clear hK K' hrun
                try simp only [List.getElem_toArray, List.getElem_cons_zero, List.getElem_cons_succ, Act.put, List.setIfInBounds_toArray, List.set_cons_zero, List.set_cons_succ]
                refine wpAnyL_free (i := 25) (v := .pointer (some ⟨rg, k * 3, none⟩)) rfl (by kernel_rfl) (by kernel_rfl) (by kernel_rfl) (fun _ _ _ h => h) (Or.inl ⟨by rfl, fun w _ => by have c0 := hki; go_simp⟩) ?_
                try simp only [List.getElem_toArray, List.getElem_cons_zero, List.getElem_cons_succ, Act.put, List.setIfInBounds_toArray, List.set_cons_zero, List.set_cons_succ]
                refine wpAnyL_free (i := 26) (v := .pointer (some ⟨rg, k * 3 + 1, none⟩)) rfl (by kernel_rfl) (by kernel_rfl) (by kernel_rfl) (fun _ _ _ h => h) (Or.inl ⟨by rfl, fun w _ => by go_simp⟩) ?_
                try simp only [List.getElem_toArray, List.getElem_cons_zero, List.getElem_cons_succ, Act.put, List.setIfInBounds_toArray, List.set_cons_zero, List.set_cons_succ]
                refine wpAnyL_one (i := 27) (by kernel_rfl) rfl (fun K' hK => ?_)
                rw [if_pos (by rfl)]
                go_simp
                refine hK.out _ _ (fun _ h => by cases h) ?_
                clear hK K'
                try simp only [List.getElem_toArray, List.getElem_cons_zero, List.getElem_cons_succ, Act.put, List.setIfInBounds_toArray, List.set_cons_zero, List.set_cons_succ]
                refine wpAnyL_done (by kernel_rfl) ?_ _
                obtain ⟨w3, hw3⟩ : ∃ w3, w2.setCell ⟨rg, k * 3 + 1, none⟩ (.slice (some ⟨g2, 0, none⟩) (n + 1) c2) = w3 := ⟨_, rfl⟩
                have HG3 : Hid (∃ lf' R', GL w1 w3 B K M m2 h2 lf2 en2 E2 (.slice so E2 sc) cs k (i + 1) lf' R') := by
                  have h5 := HST.out w3 hw3
                  rw [← HN.out, ← HCM.out] at h5
                  exact HG.out.step hlt hi64 h5
                have HB3 : Hid (B ≤ w3.heap.size) := by
                  have h5 := (HST.out w3 hw3).2.1.bel.size
                  exact Nat.le_trans HBB.out h5
                rw [hw3]
                clear hw3 HST hu hfz h0 k0 hkb b1 b2 kc HG
                go_wp2
                go_roundw
                case rel => exact ⟨i + 1, by omega, by go_num, HG3, HB3⟩
                case measure => simp [intOf]; omega
            · as_aux_lemma =>
              have e1 : i = N := by omega
              have q1 : ¬ (i : Int) < 2 := by rw [e1, ← hN]; split <;> omega
              have q1d : decide ((i : Int) < 2) = false := by simp; omega
              have q1n : decide (i < 2) = false := by simp; omega
              have HGN : Hid (∃ lf' R', GL w1 wr B K M m2 h2 lf2 en2 E2 (.slice so E2 sc) cs (k + 1) 0 lf' R') := by
                obtain ⟨lf', R', hG⟩ := HGE.out
                exact ⟨lf', R', hG.next⟩
              clear HGE
              by_cases h64 : k < 64
              · have q2 : (k : Int) < 64 := by omega
                have q3 : ¬ (i : Int) < 64 := by rw [e1, ← hN, if_pos h64]; omega
                have q3d : decide ((i : Int) < 64) = false := by simp; omega
                have q3n : decide (i < 64) = false := by simp; omega
                have q2d : decide ((k : Int) < 64) = true := by simp; omega
                have q2n : decide (k < 64) = true := by simp; omega
                go_wp2
                go_roundw
                case rel => exact ⟨k + 1, by omega, by go_num, HGN, HBB⟩
                case measure => simp [intOf]; omega
              · have q2 : ¬ (k : Int) < 64 := by omega
                have q2d : decide ((k : Int) < 64) = false := by simp; omega
                have q2n : decide (k < 64) = false := by simp; omega
                go_wp2
                go_roundw
                case rel => exact ⟨k + 1, by omega, by go_num, HGN, HBB⟩
                case measure => simp [intOf]; omega
        · as_aux_lemma =>
          have hki : ¬ (k : Int) < (E2 : Int) := by omega
          obtain ⟨lf2', R2', hG2⟩ := HGE.out
          have HE2 := hide hG2
          clear hG2 HGE
          go_wp2
          go_end0
          exact ⟨rfl, HFIN.out wr _ lf2' R2' HE2.out⟩
end

end Go.Proofs.Ytdnbpklnkmgmkaa
