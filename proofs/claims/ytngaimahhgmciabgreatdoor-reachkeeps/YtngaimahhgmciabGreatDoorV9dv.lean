/-
  ReachKeeps: what the lists and rows hold behind some rounds; Need, Lacks and Get of a Map, for the same results and the same id.
-/
import Derived.Test.YtngaimahhgmciabGreatDoorV9cv
import Derived.Test.YtngaimahhgmciabGreatDoorV9qv
namespace Go.Proofs.YtngaimahhgmciabGreatDoor
open Go.RowKit Go.Lib Go.Sort
set_option linter.unusedVariables false
set_option linter.unusedSimpArgs false

/-- append(rows, a, b, ..): what is put behind lies in a new block. -/
theorem run_append_vals {P : Program} (t e : TypeId) (ht : P.underlying t = some (.slice e)) (hinf : (P.info? e).map (fun i => (i.zero, i.size, i.bytes)) = some (some (.slice none 0 0), 1, 24)) (w : World) (B : Nat) (v : Value) (n : Nat) (xs zs : List Value) (k : Nat) (hk : zs.length = k) (hown : w.ownsRow B e 1 v n xs) (h1 : ∀ a ∈ zs, a.oneCell' = true) (hl : n + k ≤ 1000000) (hb : B ≤ w.heap.size) :
    ∃ v' w', (Builtin.append_ #[t, t] t #[v, .slice (some ⟨w.heap.size, 0, none⟩) k k]).run P (w.alloc (.cells zs.toArray e)) = .ok v' w' ∧ w'.ownsRow B e 1 v' (n + k) (xs ++ zs) ∧ w.grownBy w' v.ownBlock := by
  obtain ⟨i0, hi, hz0, hz1, hz2⟩ := info_parts hinf
  have hnew := heap_new w (.cells zs.toArray e)
  have kN : Kept [] w (w.alloc (.cells zs.toArray e)) := (Kept.refl [] w).alloc _
  have hown' : (w.alloc (.cells zs.toArray e)).ownsRow B e 1 v n xs := own_keep hown (kept_grown (row := none) kN (by simp)) (Off.none _)
  obtain ⟨v', w', hrun, h1', hg, _, _⟩ := run_append_own_at (P := P) (w.alloc (.cells zs.toArray e)) B t t e i0 (.slice none 0 0) 1 24 ht hi hz0 hz1 hz2 rfl (by decide) v n xs hown' ⟨w.heap.size, 0, none⟩ k k zs (by omega)
    (fun j u hj => by rw [Addr.add_mid, Nat.zero_add, cell_of_row _ _ _ _ _ _ hnew]; simpa using hj) h1 (by unfold maxLen; omega) (by omega) (by simp; omega)
  refine ⟨v', w', hrun, h1', ?_⟩
  exact kept_grown (l := v.ownBlock.toList) ((kN.mono (by simp)).grown hg (fun k hk _ => by simp [hk])) (by simp)

section
variable {w wr wr' : World} {mb ml : Nat} {fb fl : Nat → Rw} {vR vL : Value}
/-- One row of bytes more. -/
theorem Tk.addB1 (h : Tk w wr mb ml fb fl vR vL) {r1 : Rw} (h1 : r1.At 5 1 w.heap.size wr) (o1 : ∀ i, i < mb → Off (fb i).blk r1.blk)
    {vR' : Value} (hn : wr'.ownsRow w.heap.size 33 1 vR' (mb + 1) (vals mb fb ++ [r1.val])) (hg : wr.grownBy wr' vR.ownBlock) : Tk w wr' (mb + 1) ml (upr fb mb r1) fl vR' vL := by
  have f1 : Fam 5 1 w.heap.size wr (mb + 1) (upr fb mb r1) := h.bf.more h1 o1
  have hbel : Below w.heap.size w wr' := by
    have hk : Kept vR.ownBlock.toList wr wr' := (Kept.refl _ wr).grown hg (fun k hk _ => by simp [hk])
    exact h.bel.trans (hk.below h.bel.size (fun g hg' => (World.ownsRow.lt h.oR g (by simpa using hg')).1))
  have hv : vals (mb + 1) (upr fb mb r1) = vals mb fb ++ [r1.val] := by
    rw [vals_succ, upr_same]
    rw [vals_congr (f := upr fb mb r1) (g := fb) (fun i hi => by rw [upr_other _ _ _ _ (by omega)])]
  refine ⟨hbel, f1.grow hg (fun i hi => own_types (f1.own i hi) h.oR (by decide)), h.lf.grow hg (fun i hi => own_types (h.lf.own i hi) h.oR (by decide)), by rw [hv]; exact hn, own_keep h.oL hg (own_types h.oL h.oR (by decide))⟩
end
/-- By turns, of two. -/
def p2 {α : Type} (x y : α) (a : Nat) : α := if a % 2 = 0 then x else y
theorem p2_0 {α : Type} (x y : α) (j : Nat) : p2 x y (2 * j) = x := by simp [p2]
theorem p2_1 {α : Type} (x y : α) (j : Nat) : p2 x y (2 * j + 1) = y := by simp [p2, show (2 * j + 1) % 2 = 1 by omega]
/-- Behind i rounds: what the lists and rows hold. -/
structure Kk (i : Nat) (X : List UInt8) (A B : List Ix) (fb fl : Nat → Rw) : Prop where
  b : ∀ a, a < i → (fb a).n = X.length ∧ (fb a).vs = bys X
  l : ∀ a, a < 2 * i → (fl a).n = (p2 A B a).length ∧ (fl a).vs = irows (p2 A B a)
theorem Kk.start (X : List UInt8) (A B : List Ix) (fb fl : Nat → Rw) : Kk 0 X A B fb fl := ⟨fun a ha => absurd ha (by omega), fun a ha => absurd ha (by omega)⟩
theorem Kk.next {i : Nat} {X : List UInt8} {A B : List Ix} {fb fl : Nat → Rw} (h : Kk i X A B fb fl) (r1 r2 r3 : Rw) (e1 : r1.n = X.length ∧ r1.vs = bys X) (e2 : r2.n = A.length ∧ r2.vs = irows A) (e3 : r3.n = B.length ∧ r3.vs = irows B) :
    Kk (i + 1) X A B (upr fb i r1) (upr (upr fl (2 * i) r2) (2 * i + 1) r3) := by
  refine ⟨fun a ha => ?_, fun a ha => ?_⟩
  · by_cases e : a = i
    · subst e; rw [upr_same]; exact e1
    · rw [upr_other _ _ _ _ e]; exact h.b a (by omega)
  · by_cases e4 : a = 2 * i + 1
    · subst e4; rw [upr_same, p2_1]; exact e3
    · rw [upr_other _ _ _ _ e4]
      by_cases e5 : a = 2 * i
      · subst e5; rw [upr_same, p2_0]; exact e2
      · rw [upr_other _ _ _ _ e5]; exact h.l a (by omega)
/-- What the writing over begins with. -/
theorem Tk.begin {w wr : World} {fb fl : Nat → Rw} {vR vL : Value} {X : List UInt8} {A B : List Ix} (h : Tk w wr 6 12 fb fl vR vL) (hc : Kk 6 X A B fb fl) (hX : X.length ≤ 140737488355200) (hA : A.length ≤ 2199023255551) (hB : B.length ≤ 2199023255551) :
    Tm w wr 6 12 fb fl vR vL 0 0 0 0 := by
  refine ⟨h, fun a ha => ?_, fun a ha => ?_⟩
  · obtain ⟨q1, q2⟩ := hc.b a ha
    exact ⟨X, q1, q2, hX, fun k _ hk => by omega⟩
  · obtain ⟨q1, q2⟩ := hc.l a (by omega)
    refine ⟨_, q1, q2, ?_, fun k _ hk => by omega⟩
    unfold p2
    split
    · exact hA
    · exact hB

theorem Ms9.keptV {lo hi b : Nat} {M : List (List UInt8 × List UInt8)} {V : List Value} {w w' : World} (h : Ms9 lo hi b M V w) (hk : Kept [] w w') : Ms9 lo hi b M V w' :=
  ⟨h.im.kept hk (by simp), fun j hj => (h.own j hj).kept hk (fun _ _ => by simp), h.len, h.lob, h.hib, h.hiv⟩
theorem Ms9.mfV {lo hi b N : Nat} {M : List (List UInt8 × List UInt8)} {V : List Value} {w : World} (h : Ms9 lo hi b M V w) (hN : M.length ≤ N) : Mf lo hi b (mpf M) N w := ⟨M, V, h, rfl, hN⟩
theorem Ms9.mapAtV {lo hi b : Nat} {M : List (List UInt8 × List UInt8)} {V : List Value} {w : World} (h : Ms9 lo hi b M V w) (hgt : 4 ≤ lo) : MapAt w (.map (some b)) M := (fix_std hgt h).at_ (fun _ _ => rfl)
section
variable {lo hi b N : Nat} {f : List UInt8 → An} {w : World}
/-- What Need answers, for a walk that tells all. -/
def lnK (r : Option (List UInt8) × Ws × List (List UInt8)) : List (List UInt8) := if picks r.2.1.B r.2.2 r.2.1.L = none then canon r.2.1.N else []
theorem nil_ownI (w : World) (base : Nat) : OwnI w base (.slice none 0 0) [] := ⟨World.ownsRow_nil _ _ _ _, fun i hi => by simp at hi⟩
theorem needk_ok (h : Mf lo hi b f N w) (hgt : 4 ≤ lo) (hh : hi ≤ w.heap.size) (gl : GlE w) (tabs : Tabs w) (ao : Option Addr) (n c : Nat) (L : List Rz) (hl : L.length = n) (hL : Rss w ao L) (hn : n + N * 32 ≤ 4398046511104) (hfar : L ≠ [] → ∀ a, ao = some a → a.block < w.heap.size)
    {r : Option (List UInt8) × Ws × List (List UInt8)} (hr : Tls f (L.map (·.root)) r) :
    Calls Tryz.prog 9 #[.iface 26 (.map (some b)), .slice ao n c] w fun e w' => ∃ v ev, e = .returned (.tuple #[v, ev]) ∧ OwnI w' w.heap.size v (lnK r) ∧ Kept [] w w' := by
  refine (needf_ok h hgt hh gl tabs ao n c L hl hL hn hfar).mono (fun e w' hE => ?_)
  obtain ⟨v, ev, r', h1, h2, h3, h4, h5⟩ := hE
  obtain ⟨c1, _, c3⟩ := tls_cong (fun q => Iff.rfl) h2 hr
  refine ⟨v, ev, h1, ?_, h5⟩
  rcases h3 with ⟨g1, _, g3⟩ | ⟨cd, i, eb, g1, g2, _⟩
  · rw [c1] at g3
    rw [c3] at g1
    unfold lnK
    rw [if_pos g1]
    exact g3
  · rw [c3] at g1
    unfold lnK
    rw [g1, if_neg (by simp), g2]
    exact nil_ownI _ _
theorem lackk_ok (h : Mf lo hi b f N w) (hgt : 4 ≤ lo) (hh : hi ≤ w.heap.size) (gl : GlE w) (tabs : Tabs w) (ao : Option Addr) (n c : Nat) (L : List Rz) (hl : L.length = n) (hL : Rss w ao L) (hn : n + N * 32 ≤ 4398046511104) (hfar : L ≠ [] → ∀ a, ao = some a → a.block < w.heap.size)
    {r : Option (List UInt8) × Ws × List (List UInt8)} (hr : Tls f (L.map (·.root)) r) :
    Calls Tryz.prog 10 #[.iface 26 (.map (some b)), .slice ao n c] w fun e w' => ∃ v ev, e = .returned (.tuple #[v, ev]) ∧ OwnI w' w.heap.size v (canon r.2.1.L) ∧ Kept [] w w' := by
  refine (lacksf_ok h hgt hh gl tabs ao n c L hl hL hn hfar).mono (fun e w' hE => ?_)
  obtain ⟨v, r', h1, h2, h3, h5⟩ := hE
  obtain ⟨_, c2, _⟩ := tls_cong (fun q => Iff.rfl) h2 hr
  rw [c2] at h3
  exact ⟨v, _, h1, h3, h5⟩
end
/-- What Get answers. -/
def csK (M : List (List UInt8 × List UInt8)) (q : List UInt8) : List UInt8 := match mpf M q with
  | .data xs => xs
  | _ => []
theorem getk_ok (mv : Value) (M : List (List UInt8 × List UInt8)) (i : List UInt8) (w : World) (h : MapAt w mv M) (hi : i.length = 32) :
    Calls Tryz.prog 16 #[mv, .agg (bys i).toArray] w fun e w' => ∃ v ev, e = .returned (.tuple #[v, ev]) ∧ w'.ownsRow w.heap.size 5 1 v (csK M i).length (bys (csK M i)) ∧ Kept [] w w' := by
  refine (get9_ok mv M i w h hi).mono (fun e w' hE => ?_)
  obtain ⟨hk, h1 | h1⟩ := hE
  · obtain ⟨g1, eb, g2, _⟩ := h1
    refine ⟨_, _, g2, ?_, hk⟩
    have e0 : csK M i = [] := by unfold csK; rw [g1]
    rw [e0]
    exact World.ownsRow_nil _ _ _ _
  · obtain ⟨xs, v, g1, g2, _, g4⟩ := h1
    refine ⟨v, _, g2, ?_, hk⟩
    have e0 : csK M i = xs := by unfold csK; rw [g1]
    rw [e0]
    exact g4
/-- What a Map says, as a text. -/
theorem mapk_text {w : World} {mv : Value} {M : List (List UInt8 × List UInt8)} (h : MapAt w mv M) (q : List UInt8) (hq : q.length = 32) :
    ∃ ao n c, (∀ W, Kept [] w W → (Instr.lookup 26 mv (.agg (bys q).toArray) false).run Tryz.prog W = .ok (.slice ao n c) W) ∧ ∀ W, Kept [] w W → (convert 33 9 (.slice ao n c)).run Tryz.prog W = .ok (.string ⟨(csK M q).toArray⟩) W := by
  rcases h.look q hq false with ⟨g1, g2⟩ | ⟨v, xs, g1, ⟨ao, n, c, rfl, h1, h2, h3, h4, h5⟩, g3⟩
  · refine ⟨none, 0, 0, fun W hW => by have := g2 W hW; simpa using this, fun W hW => ?_⟩
    have e0 : csK M q = [] := by unfold csK; rw [g1]
    rw [e0]
    exact conv_sl W none 0 0 [] rfl (Sl.nil _ _) (fun _ => rfl)
  · refine ⟨ao, n, c, fun W hW => by have := g3 W hW; simpa using this, fun W hW => ?_⟩
    have e0 : csK M q = xs := by unfold csK; rw [g1]
    rw [e0]
    exact conv_sl W ao n c xs h1 (h4.kept hW (by simp)) (fun h => by rw [← h1, (h5 h).1]; rfl)
end Go.Proofs.YtngaimahhgmciabGreatDoor
