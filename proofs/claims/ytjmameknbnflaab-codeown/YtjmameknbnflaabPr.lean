/-
  The statements' own wrote; a writer beside what the document says was written.
-/
import Derived.Test.YtjmameknbnflaabLp
namespace Go.Proofs.Ytjmameknbnflaab
open Go.RowKit
set_option linter.unusedVariables false
set_option linter.unusedSimpArgs false

theorem own_sl2 {w : World} {base : Nat} {e : TypeId} {vo : Option Addr} {n cap : Nat} {xs : List UInt8} (h : w.ownsRow base e 1 (.slice vo n cap) n (bys xs)) : Sl w vo xs := by
  by_cases hv : (Value.slice vo n cap) = .slice none 0 0
  · cases hv
    have : xs = [] := by
      have := h.1
      rw [bys_length] at this
      exact List.eq_nil_of_length_eq_zero (by omega)
    subst this
    exact Sl.nil _ _
  · obtain ⟨g, c, e, _, _, _, hs⟩ := own_sl h hv
    cases e
    exact hs

set_option maxHeartbeats 1500000 in
set_option maxRecDepth 100000 in
theorem lwrote_none {w : World} {p : Option Addr} {fp : List Nat} {x base : Nat} {v : Value} (h : WrS w p fp none) (hd : WdS w x base v none) :
    Calls Try.prog 31 #[.pointer p, .pointer (some ⟨x, 0, none⟩)] w fun e w' => e = .returned (.bool true) ∧ Kept [] w w' := by
  have HW : Hid (WrS w p fp none) := h
  have HD : Hid (WdS w x base v none) := hd
  clear h hd
  go_enter Try.func31, Try.ntmps31
  go_wp2_with (fail)
  refine (wdata_st HW.out (by simp)).mono ?_
  rintro e w1 ⟨he, hk⟩
  obtain rfl : e = .returned (.tuple #[.slice none 0 0, .int .i64 1]) := he
  have HK : Hid (Kept [] w w1) := hk
  have h1 := (HD.out.kept hk (by simp) (by simp)).c1
  simp only [Option.isNone_none] at h1
  clear hk
  go_wp2_with (go_at_call 39; refine (num_any _ _).mono ?_; rintro e w' ⟨rfl, hw⟩; obtain rfl := hw.symm)
  go_ret
  exact ⟨rfl, HK.out⟩

set_option maxHeartbeats 1500000 in
set_option maxRecDepth 100000 in
theorem lwrote_some {w : World} {p : Option Addr} {fp : List Nat} {x base : Nat} {v : Value} {ys : List UInt8} (h : WrS w p fp (some ys)) (hd : WdS w x base v (some ys)) (hl : ys.length ≤ 100000000000) :
    Calls Try.prog 31 #[.pointer p, .pointer (some ⟨x, 0, none⟩)] w fun e w' => e = .returned (.bool true) ∧ Kept [] w w' := by
  have HW : Hid (WrS w p fp (some ys)) := h
  have HD : Hid (WdS w x base v (some ys)) := hd
  clear h hd
  go_enter Try.func31, Try.ntmps31
  go_wp2_with (fail)
  refine (wdata_st HW.out (fun zs hz => by cases hz; exact hl)).mono ?_
  rintro e w1 ⟨⟨ao, cap, rfl, hfr⟩, hk⟩
  have HK : Hid (Kept [] w w1) := hk
  have hd1 := HD.out.kept hk (by simp) (by simp)
  have h1 := hd1.c1
  have h0 := hd1.c0
  simp only [Option.isNone_some] at h1
  obtain ⟨vo, vc, rfl⟩ := own_shape hd1.own'
  have HS1 : Hid (Sl w1 ao ys) := hfr.1
  have HS2 : Hid (Sl w1 vo ys) := own_sl2 hd1.own'
  clear hfr hd1 hk HD
  go_wp2_with (first | (go_at_call 39; refine (num_any _ _).mono ?_; rintro e w' ⟨rfl, hw⟩; obtain rfl := hw.symm) | (go_at_call 17; refine (bytes_any _ _ _ _ _ _ ys ys _ rfl rfl (by omega) HS1.out HS2.out).mono ?_; rintro e w' ⟨rfl, n3, rfl⟩; simp only [decide_true]))
  go_ret
  exact ⟨rfl, HK.out.drewN _⟩

/-- wrote: the writer tells what the document says. -/
theorem lwrote_any {w : World} {p : Option Addr} {fp : List Nat} {o : Option (List UInt8)} {x base : Nat} {v : Value} (h : WrS w p fp o) (hd : WdS w x base v o) (hl : ∀ ys, o = some ys → ys.length ≤ 90000000000) :
    Calls Try.prog 31 #[.pointer p, .pointer (some ⟨x, 0, none⟩)] w fun e w' => e = .returned (.bool true) ∧ Kept [] w w' := by
  cases o with
  | none => exact lwrote_none h hd
  | some ys => exact lwrote_some h hd (by have := hl ys rfl; omega)

/-- A writer, and what the document says was written, apart from one another. -/
structure Pair (w : World) (base b x : Nat) (fp : List Nat) (v : Value) (o : Option (List UInt8)) : Prop where
  wr : WrS w (some ⟨b, 0, none⟩) fp o
  wd : WdS w x base v o
  nx : x ∉ fp
  nv : ∀ g, v.ownBlock = some g → g ∉ fp
  ge : ∀ g, g ∈ fp → base ≤ g
  gx : base ≤ x

/-- Their blocks. -/
def pfp (x : Nat) (fp : List Nat) (v : Value) : List Nat := fp ++ x :: v.ownBlock.toList
theorem mem_pfp {x : Nat} {fp : List Nat} {v : Value} {g : Nat} : g ∈ pfp x fp v ↔ g ∈ fp ∨ g = x ∨ v.ownBlock = some g := by simp [pfp]

theorem Pair.lts {w : World} {base b x : Nat} {fp : List Nat} {v : Value} {o : Option (List UInt8)} (h : Pair w base b x fp v o) : ∀ g, g ∈ pfp x fp v → base ≤ g ∧ g < w.heap.size := by
  intro g hg
  rcases mem_pfp.1 hg with hg | rfl | hg
  · exact ⟨h.ge g hg, h.wr.lts (by simp) g hg⟩
  · exact ⟨h.gx, h.wd.lt⟩
  · obtain ⟨zs, ho, _⟩ := h.wd.own
    exact ho.lt g hg

theorem Pair.kept {l : List Nat} {w w' : World} {base b x : Nat} {fp : List Nat} {v : Value} {o : Option (List UInt8)} (h : Pair w base b x fp v o) (hk : Kept l w w') (hn : ∀ g, g ∈ pfp x fp v → g ∉ l) : Pair w' base b x fp v o :=
  ⟨h.wr.kept hk (fun g hg => hn g (mem_pfp.2 (.inl hg))), h.wd.kept hk (hn x (mem_pfp.2 (.inr (.inl rfl)))) (fun k hv => hn k (mem_pfp.2 (.inr (.inr hv)))), h.nx, h.nv, h.ge, h.gx⟩

/-- A desk, apart from all that lies in F. -/
structure Off (w : World) (D : Nat) (bo : Option Nat) (R : List UInt8) (F : List Nat) : Prop where
  dk : Dk w D bo R
  d1 : D ∉ F
  d2 : ∀ g, bo = some g → g ∉ F

theorem Off.kept {l : List Nat} {w w' : World} {D : Nat} {bo : Option Nat} {R : List UInt8} {F : List Nat} (h : Off w D bo R F) (hk : Kept l w w') (hn : ∀ g, g ∈ dkfp D bo → g ∉ l) : Off w' D bo R F :=
  ⟨h.dk.kept hk (hn D (mem_dkfp.2 (.inl rfl))) (fun g hg => hn g (mem_dkfp.2 (.inr hg))), h.d1, h.d2⟩

/-- Between put and write. -/
theorem pair_put {w w1 : World} {base b x : Nat} {fp : List Nat} {v : Value} {o o' : Option (List UInt8)} {D : Nat} {bo : Option Nat} {R : List UInt8} (h : Pair w base b x fp v o) (hd : Off w D bo R (pfp x fp v)) (hp : LpEnd w w1 x base v o') : WD w1 (some ⟨b, 0, none⟩) fp o D bo R := by
  obtain ⟨v', hv, hk, hn⟩ := hp
  have hnd : ∀ g, g ∈ dkfp D bo → g ∉ x :: v.ownBlock.toList := fun g hg hm => by
    have hm' : g ∈ pfp x fp v := by simp [pfp] at hm ⊢; exact .inr hm
    rcases mem_dkfp.1 hg with rfl | hg
    · exact hd.d1 hm'
    · exact hd.d2 _ hg hm'
  refine ⟨h.wr.kept hk (fun g hg hm => ?_), (hd.kept hk hnd).dk, fun hm => hd.d1 (mem_pfp.2 (.inl hm)), fun g hg hm => hd.d2 g hg (mem_pfp.2 (.inl hm)), by simp⟩
  simp at hm
  rcases hm with rfl | hm
  · exact h.nx hg
  · exact h.nv _ hm hg

/-- What put and write leave. -/
theorem pair_step {w w1 w2 : World} {base b x : Nat} {fp : List Nat} {v : Value} {o o' : Option (List UInt8)} {D : Nat} {bo : Option Nat} {R : List UInt8} (h : Pair w base b x fp v o) (hd : Off w D bo R (pfp x fp v)) (hp : LpEnd w w1 x base v o') (hw : LwEnd w1 w2 (some ⟨b, 0, none⟩) fp o' D bo) (hb : base ≤ w.heap.size) :
    ∃ fp' v' bo' R', Pair w2 base b x fp' v' o' ∧ Off w2 D bo' R' (pfp x fp' v') ∧ Kept (pfp x fp v ++ dkfp D bo) w w2 ∧ (∀ g, g ∈ pfp x fp' v' → g ∈ pfp x fp v ∨ w.heap.size ≤ g) ∧ ∀ g, bo' = some g → bo = some g ∨ w.heap.size ≤ g := by
  have hlt := h.lts
  have hDl := hd.dk.lt
  have hDg := hd.dk.ltg
  obtain ⟨v', hv, hk, hn⟩ := hp
  obtain ⟨fp', bo', R', hwd, hk2, hs, hbo⟩ := hw
  have hsz := hk.size
  have hx := h.wd.lt
  have hownv : ∀ k, v'.ownBlock = some k → k < w1.heap.size := fun k hk' => by
    obtain ⟨zs, ho, _⟩ := hv.own
    exact (ho.lt k hk').2
  have hdx : D ≠ x := fun e => hd.d1 (mem_pfp.2 (.inr (.inl e)))
  have hdbx : ∀ g, bo = some g → g ≠ x := fun g hg e => hd.d2 g hg (mem_pfp.2 (.inr (.inl e)))
  have hfx : x ∉ fp' := fun hm => by
    rcases hs x hm with h1 | h1
    · exact h.nx h1
    · omega
  have hv'D : ∀ k, v'.ownBlock = some k → k ≠ D ∧ bo ≠ some k := fun k hk' => by
    rcases hn k hk' with h1 | h1
    · exact ⟨fun e => hd.d1 (mem_pfp.2 (.inr (.inr (e ▸ h1)))), fun e => hd.d2 k e (mem_pfp.2 (.inr (.inr h1)))⟩
    · refine ⟨fun e => ?_, fun e => ?_⟩
      · omega
      · have := hDg k e; omega
  have hv'fp : ∀ k, v'.ownBlock = some k → k ∉ fp := fun k hk' hm => by
    rcases hn k hk' with h1 | h1
    · exact h.nv k h1 hm
    · have := (hlt k (mem_pfp.2 (.inl hm))).2; omega
  have hv'fp' : ∀ k, v'.ownBlock = some k → k ∉ fp' := fun k hk' hm => by
    rcases hs k hm with h1 | h1
    · exact hv'fp k hk' h1
    · have := hownv k hk'; omega
  have hnew : ∀ g, g ∈ pfp x fp' v' → g ∈ pfp x fp v ∨ w.heap.size ≤ g := fun g hg => by
    rcases mem_pfp.1 hg with h1 | h1 | h1
    · rcases hs g h1 with h2 | h2
      · exact .inl (mem_pfp.2 (.inl h2))
      · exact .inr (by omega)
    · exact .inl (mem_pfp.2 (.inr (.inl h1)))
    · rcases hn g h1 with h2 | h2
      · exact .inl (mem_pfp.2 (.inr (.inr h2)))
      · exact .inr h2
  have hbo2 : ∀ g, bo' = some g → bo = some g ∨ w.heap.size ≤ g := fun g hg => by
    rcases hbo g hg with h1 | h1
    · exact .inl h1
    · exact .inr (by omega)
  refine ⟨fp', v', bo', R', ⟨hwd.wr, hv.kept hk2 ?_ ?_, hfx, hv'fp', fun g hg => ?_, h.gx⟩, ⟨hwd.dk, fun hm => ?_, fun g hg hm => ?_⟩, ?_, hnew, hbo2⟩
  · simp only [List.mem_append, mem_dkfp]
    rintro (h1 | h1 | h1)
    · exact h.nx h1
    · exact hdx h1.symm
    · exact hdbx x h1 rfl
  · intro k hk'
    simp only [List.mem_append, mem_dkfp]
    rintro (h1 | h1 | h1)
    · exact hv'fp k hk' h1
    · exact (hv'D k hk').1 h1
    · exact (hv'D k hk').2 h1
  · rcases hs g hg with h1 | h1
    · exact h.ge g h1
    · omega
  · rcases mem_pfp.1 hm with h1 | h1 | h1
    · exact hwd.d1 h1
    · exact hdx h1
    · exact (hv'D D h1).1 rfl
  · rcases mem_pfp.1 hm with h1 | h1 | h1
    · exact hwd.d2 g hg h1
    · rcases hbo g hg with h2 | h2
      · exact hdbx g h2 h1
      · omega
    · rcases hbo g hg with h2 | h2
      · exact (hv'D g h1).2 h2
      · have := hownv g h1; omega
  · refine (hk.mono (l2 := pfp x fp v ++ dkfp D bo) (fun i hi _ => ?_)).trans hk2 (fun i hi hlt' => ?_)
    · simp at hi
      simp only [List.mem_append, mem_pfp]
      rcases hi with h1 | h1
      · exact .inl (.inr (.inl h1))
      · exact .inl (.inr (.inr h1))
    · simp only [List.mem_append, mem_pfp] at hi ⊢
      rcases hi with h1 | h1
      · exact .inl (.inl h1)
      · exact .inr h1

theorem Try.zeroLW (W : World) : (zeroValue 63).run Try.prog W = .ok (.agg #[.slice none 0 0, .bool false]) W := by kernel_rfl

/-- A new W. -/
theorem wds_zero (w : World) {base : Nat} (hb : base ≤ w.heap.size) : WdS (w.alloc (.cells #[.slice none 0 0, .bool false] 63)) w.heap.size base (.slice none 0 0) (some []) :=
  ⟨by simp, by simp, by simp, by simp, ⟨[], World.ownsRow_nil _ _ _ _, by simp⟩, by simp [Value.ownBlock], by simp; omega⟩

end Go.Proofs.Ytjmameknbnflaab
