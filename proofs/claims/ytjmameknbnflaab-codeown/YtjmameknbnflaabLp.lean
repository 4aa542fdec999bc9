/-
  Contracts: the statements' own put and wrote.
-/
import Derived.Test.YtjmameknbnflaabRw1
import Derived.Test.YtjmameknbnflaabLw
import Derived.Maps.AppendAt
namespace Go.Proofs.Ytjmameknbnflaab
open Go.RowKit
set_option linter.unusedVariables false
set_option linter.unusedSimpArgs false

/-- What the document says was written, in a state: it lies at block x, its bytes in memory of its own. -/
structure WdS (w : World) (x base : Nat) (v : Value) (o : Option (List UInt8)) : Prop where
  c0 : w.cell? ⟨x, 0, none⟩ = some v
  c1 : w.cell? ⟨x, 1, none⟩ = some (.bool o.isNone)
  f0 : w.frozen? ⟨x, 0, none⟩ = false
  f1 : w.frozen? ⟨x, 1, none⟩ = false
  own : ∃ zs : List UInt8, w.ownsRow base 5 1 v zs.length (bys zs) ∧ ∀ ys, o = some ys → zs = ys
  ne : v.ownBlock ≠ some x
  le : base ≤ w.heap.size

theorem WdS.kept {l : List Nat} {w w' : World} {x base : Nat} {v : Value} {o : Option (List UInt8)} (h : WdS w x base v o) (hk : Kept l w w') (hx : x ∉ l) (hv : ∀ k, v.ownBlock = some k → k ∉ l) : WdS w' x base v o := by
  obtain ⟨zs, ho, hz⟩ := h.own
  have hb := World.block_lt_of_cell? _ _ h.c0
  exact ⟨hk.cellOf h.c0 hx, hk.cellOf h.c1 hx, (hk.frozen (p := ⟨x, 0, none⟩) hb hx).trans h.f0, (hk.frozen (p := ⟨x, 1, none⟩) hb hx).trans h.f1, ⟨zs, Kept.nil_own ho hk hv, hz⟩, h.ne, Nat.le_trans h.le hk.size⟩
theorem WdS.lt {w : World} {x base : Nat} {v : Value} {o : Option (List UInt8)} (h : WdS w x base v o) : x < w.heap.size := World.block_lt_of_cell? _ _ h.c0

theorem own_shape {w : World} {base : Nat} {e : TypeId} {size : Nat} {v : Value} {n : Nat} {xs : List Value} (h : w.ownsRow base e size v n xs) : ∃ ao cap, v = .slice ao n cap := by
  rcases h.2 with ⟨rfl, rfl⟩ | ⟨g, cap, cur, rfl, _⟩
  · exact ⟨none, 0, rfl⟩
  · exact ⟨_, _, rfl⟩

theorem WdS.own' {w : World} {x base : Nat} {v : Value} {ys : List UInt8} (h : WdS w x base v (some ys)) : w.ownsRow base 5 1 v ys.length (bys ys) := by
  obtain ⟨zs, ho, hz⟩ := h.own
  rw [← hz ys rfl]
  exact ho

/-- What put leaves. -/
def LpEnd (w w' : World) (x base : Nat) (v : Value) (o : Option (List UInt8)) : Prop :=
  ∃ v', WdS w' x base v' o ∧ Kept (x :: v.ownBlock.toList) w w' ∧ ∀ k, v'.ownBlock = some k → v.ownBlock = some k ∨ w.heap.size ≤ k


theorem Sl.src {w : World} {ad : Addr} {xs : List UInt8} (h : Sl w (some ad) xs) : ∀ j u, (bys xs)[j]? = some u → w.cell? (ad.add j) = some u := fun j u hu => by
  obtain ⟨hj, rfl⟩ := bys_get hu
  obtain ⟨b, off, e', hb, hc⟩ := h.open (by rintro rfl; simp at hj)
  cases e'
  rw [Addr.add_mid]
  exact hc j hj

/-- Bad is stored. -/
theorem WdS.good {w : World} {x base : Nat} {v : Value} {ys : List UInt8} (h : WdS w x base v (some ys)) : WdS (w.setCell ⟨x, 1, none⟩ (.bool false)) x base v (some ys) := by
  obtain ⟨zs, ho, hz⟩ := h.own
  refine ⟨?_, World.cell?_setCell_same _ _ _ h.c1, ?_, ?_, ⟨zs, Kept.nil_own ho ((Kept.refl [x] w).setCell (by simp) _) (fun k hk => ?_), hz⟩, h.ne, Nat.le_trans h.le ((Kept.refl [x] w).setCell (by simp) _).size⟩
  · rw [World.cell?_setCell_other _ _ _ _ (by simp)]; exact h.c0
  · rw [World.frozen?_setCell]; exact h.f0
  · rw [World.frozen?_setCell]; exact h.f1
  · have := h.ne; rw [hk] at this; simpa using this
theorem WdS.bad {w : World} {x base : Nat} {v : Value} {o : Option (List UInt8)} (h : WdS w x base v o) : WdS (w.setCell ⟨x, 1, none⟩ (.bool true)) x base v none := by
  obtain ⟨zs, ho, hz⟩ := h.own
  refine ⟨?_, World.cell?_setCell_same _ _ _ h.c1, ?_, ?_, ⟨zs, Kept.nil_own ho ((Kept.refl [x] w).setCell (by simp) _) (fun k hk => ?_), by simp⟩, h.ne, Nat.le_trans h.le ((Kept.refl [x] w).setCell (by simp) _).size⟩
  · rw [World.cell?_setCell_other _ _ _ _ (by simp)]; exact h.c0
  · rw [World.frozen?_setCell]; exact h.f0
  · rw [World.frozen?_setCell]; exact h.f1
  · have := h.ne; rw [hk] at this; simpa using this

/-- The last store of put, where nothing was added. -/
theorem lp_nil {w w1 : World} {x base : Nat} {v : Value} {o : Option (List UInt8)} (h : WdS w1 x base v o) (hk : Kept (x :: v.ownBlock.toList) w w1) : LpEnd w (w1.setCell ⟨x, 0, none⟩ v) x base v o := by
  obtain ⟨zs, ho, hz⟩ := h.own
  refine ⟨v, ⟨World.cell?_setCell_same _ _ _ h.c0, ?_, ?_, ?_, ⟨zs, Kept.nil_own ho ((Kept.refl [x] w1).setCell (by simp) _) (fun k hk => ?_), hz⟩, h.ne, Nat.le_trans h.le ((Kept.refl [x] w1).setCell (by simp) _).size⟩, hk.setCell (by simp) _, fun k hk => .inl hk⟩
  · rw [World.cell?_setCell_other _ _ _ _ (by simp)]; exact h.c1
  · rw [World.frozen?_setCell]; exact h.f0
  · rw [World.frozen?_setCell]; exact h.f1
  · have := h.ne; rw [hk] at this; simpa using this

theorem lp_cell {w1 w2 : World} {x base : Nat} {v : Value} {o : Option (List UInt8)} (h : WdS w1 x base v o) (hg : w1.grownBy w2 v.ownBlock) : ∃ u, w2.cell? ⟨x, 0, none⟩ = some u ∧ w2.frozen? ⟨x, 0, none⟩ = false := by
  have hk2 : Kept v.ownBlock.toList w1 w2 := (Kept.refl _ w1).grown hg (fun k hk _ => by simp [hk])
  have hxn : x ∉ v.ownBlock.toList := by simpa [eq_comm] using h.ne
  exact ⟨v, hk2.cellOf h.c0 hxn, (hk2.frozen (p := ⟨x, 0, none⟩) h.lt hxn).trans h.f0⟩

/-- The last store of put. -/
theorem lp_store {w w1 w2 : World} {x base m : Nat} {v v' : Value} {ys bb : List UInt8} (h : WdS w1 x base v (some ys)) (hk : Kept (x :: v.ownBlock.toList) w w1) (hm : bb.length = m) (hown : w2.ownsRow base 5 1 v' (ys.length + m) (bys ys ++ bys bb)) (hg : w1.grownBy w2 v.ownBlock) (hat : v'.ownBlock = v.ownBlock ∨ v'.ownBlock = some w1.heap.size) : LpEnd w (w2.setCell ⟨x, 0, none⟩ v') x base v (some (ys ++ bb)) := by
  subst hm
  have hx := h.lt
  have hk2 : Kept v.ownBlock.toList w1 w2 := (Kept.refl _ w1).grown hg (fun k hk _ => by simp [hk])
  have hxn : x ∉ v.ownBlock.toList := by simpa [eq_comm] using h.ne
  have hne : v'.ownBlock ≠ some x := by
    rcases hat with e | e
    · rw [e]; exact h.ne
    · rw [e]; simp; omega
  have h3 : Kept [x] w2 (w2.setCell ⟨x, 0, none⟩ v') := (Kept.refl [x] w2).setCell (by simp) _
  refine ⟨v', ⟨World.cell?_setCell_same _ _ _ (hk2.cellOf h.c0 hxn), ?_, ?_, ?_, ⟨ys ++ bb, Kept.nil_own ?_ h3 (fun k hk => ?_), by simp⟩, hne, Nat.le_trans h.le (Nat.le_trans hk2.size h3.size)⟩, (hk.grown hg (fun k hk _ => by simp [hk])).setCell (by simp) _, fun k hk' => ?_⟩
  · rw [World.cell?_setCell_other _ _ _ _ (by simp)]; exact hk2.cellOf h.c1 hxn
  · rw [World.frozen?_setCell]; exact (hk2.frozen (p := ⟨x, 0, none⟩) hx hxn).trans h.f0
  · rw [World.frozen?_setCell]; exact (hk2.frozen (p := ⟨x, 1, none⟩) hx hxn).trans h.f1
  · rw [bys_append, List.length_append]; exact hown
  · rw [hk] at hne; simpa using hne
  · rcases hat with e | e
    · exact .inl (by rw [← e]; exact hk')
    · rw [e] at hk'; cases hk'; exact .inr hk.size

set_option maxHeartbeats 800000 in
set_option maxRecDepth 100000 in
theorem lput_bad {w : World} {x base : Nat} {v : Value} (h : WdS w x base v none) (kd vv wd : Int) (da : Option Addr) (dn dc : Nat) :
    Calls Try.prog 25 #[.pointer (some ⟨x, 0, none⟩), .agg #[.int .i64 kd, .int .i64 vv, .int .i64 wd, .slice da dn dc]] w fun e w' => e = .returned (.tuple #[]) ∧ LpEnd w w' x base v none := by
  have h1 := h.c1
  simp only [Option.isNone_none] at h1
  have hx := h.lt
  have HE : Hid (∀ ob, LpEnd w (w.alloc ob) x base v none) := fun ob => ⟨v, h.kept ((Kept.refl [] w).alloc _) (by simp) (by simp), ((Kept.refl [] w).alloc _).mono (by simp), fun k hk => .inl hk⟩
  clear h
  go_enter Try.func25, Try.ntmps25
  go_wp2
  exact bodyPost_ret (results_none rfl _ _ _) rfl ⟨rfl, HE.out _⟩

set_option maxHeartbeats 1500000 in
set_option maxRecDepth 100000 in
theorem lput_raw {w : World} {x base : Nat} {v : Value} {ys : List UInt8} (h : WdS w x base v (some ys)) (hl : ys.length ≤ 90000000000) (vv wd : Int) (da : Option Addr) (dn dc : Nat) (ds : List UInt8) (hin : InB w da dn dc ds) (hdn : dn ≤ 200000) :
    Calls Try.prog 25 #[.pointer (some ⟨x, 0, none⟩), .agg #[.int .i64 3, .int .i64 vv, .int .i64 wd, .slice da dn dc]] w fun e w' => e = .returned (.tuple #[]) ∧ LpEnd w w' x base v (stWRaw (some ys) ds) := by
  obtain ⟨i0, hi, hz0, hz1, hz2⟩ := info_parts Try.infoByte
  obtain ⟨vo, vc, rfl⟩ := own_shape h.own'
  have HKA : Hid (Kept [] w (w.alloc (.cells #[.int .i64 3, .int .i64 vv, .int .i64 wd, .slice da dn dc] 34))) := (Kept.refl [] w).alloc _
  have HA : Hid (WdS (w.alloc (.cells #[.int .i64 3, .int .i64 vv, .int .i64 wd, .slice da dn dc] 34)) x base (.slice vo ys.length vc) (some ys)) := h.kept HKA.out (by simp) (by simp)
  obtain ⟨cb, hcb⟩ : ∃ cb, cb = w.heap.size := ⟨_, rfl⟩
  have HCX : Hid (cb ≠ x) := by have := h.lt; show cb ≠ x; omega
  have h0 := HA.out.c0
  have h1 := HA.out.c1
  have f0 := HA.out.f0
  have f1 := HA.out.f1
  simp only [Option.isNone_some] at h1
  have c10 : (w.alloc (.cells #[.int .i64 3, .int .i64 vv, .int .i64 wd, .slice da dn dc] 34)).cell? ⟨cb, 0, none⟩ = some (.int .i64 3) := by rw [hcb]; simp
  have c11 : (w.alloc (.cells #[.int .i64 3, .int .i64 vv, .int .i64 wd, .slice da dn dc] 34)).cell? ⟨cb, 1, none⟩ = some (.int .i64 vv) := by rw [hcb]; simp
  have c12 : (w.alloc (.cells #[.int .i64 3, .int .i64 vv, .int .i64 wd, .slice da dn dc] 34)).cell? ⟨cb, 2, none⟩ = some (.int .i64 wd) := by rw [hcb]; simp
  have c13 : (w.alloc (.cells #[.int .i64 3, .int .i64 vv, .int .i64 wd, .slice da dn dc] 34)).cell? ⟨cb, 3, none⟩ = some (.slice da dn dc) := by rw [hcb]; simp
  clear h
  have HIN : Hid (InB w da dn dc ds) := hin
  clear hin
  cases da with
  | none =>
    have e0 := (HIN.out.nil rfl).1
    have e1 := (HIN.out.nil rfl).2
    have e2 : dn = 0 := by have := HIN.out.len; rw [e0] at this; simpa using this.symm
    subst e0 e1 e2
    have HOW := (show Hid _ from HA.out.own')
    go_enter Try.func25, Try.ntmps25
    go_wp2_with (at_builtin; refine wpList_append_own_none rfl _ _ 32 rfl base 5 i0 1 Try.underlying32 hi _ _ _ rfl HOW.out rfl ?_)
    go_end0
    refine ⟨rfl, ?_⟩
    simp only [stWRaw, Option.map_some, List.append_nil]
    exact lp_nil HA.out (HKA.out.mono (by simp))
  | some ad =>
    have HOW := (show Hid _ from HA.out.own')
    have HSR : Hid (∀ j u, (bys ds)[j]? = some u → (w.alloc (.cells #[.int .i64 3, .int .i64 vv, .int .i64 wd, .slice (some ad) dn dc] 34)).cell? (ad.add j) = some u) := (HIN.out.sl.kept HKA.out (by simp)).src
    have HDN : Hid (ds.length = dn) := HIN.out.len
    clear HIN
    go_enter Try.func25, Try.ntmps25
    go_wp2_with (at_builtin; refine wpList_append_own_at _ rfl _ _ 32 rfl base 5 i0 (.int .u8 0) 1 1 Try.underlying32 hi hz0 hz1 hz2 rfl (by decide) _ _ _ rfl HOW.out ad dn dc (bys ds) rfl (by rw [bys_length, HDN.out]; omega) HSR.out (bys_oneCell _) ?c3 ?c4 ?c5 ?_)
    case c3 => unfold maxLen; omega
    case c4 => omega
    case c5 => exact HA.out.le
    intro v' w1 hown hgrow hnn hat
    obtain ⟨vo', vc', rfl⟩ := own_shape hown
    have HE : Hid (LpEnd w (w1.setCell ⟨x, 0, none⟩ (.slice vo' (ys.length + dn) vc')) x base (.slice vo ys.length vc) (some (ys ++ ds))) := lp_store HA.out (HKA.out.mono (by simp)) HDN.out hown hgrow (by simpa using hat)
    have g0 : ∃ u, w1.cell? ⟨x, 0, none⟩ = some u ∧ w1.frozen? ⟨x, 0, none⟩ = false := lp_cell HA.out hgrow
    obtain ⟨u, g0, g1⟩ := g0
    clear hown hgrow hnn hat HA HOW HSR HKA h0 h1 f0 f1 c10 c11 c12 c13
    go_wp2
    go_end0
    exact ⟨rfl, HE.out⟩

set_option maxHeartbeats 1500000 in
set_option maxRecDepth 100000 in
theorem lput_other {w : World} {x base : Nat} {v : Value} {ys : List UInt8} (h : WdS w x base v (some ys)) (hl : ys.length ≤ 90000000000) (kd : Int) (vv wd : Int) (da : Option Addr) (dn dc : Nat) (b1 : (kd == 1) = false) (b2 : (kd == 2) = false) (b3 : (kd == 3) = false) (b4 : (kd == 4) = false) :
    Calls Try.prog 25 #[.pointer (some ⟨x, 0, none⟩), .agg #[.int .i64 kd, .int .i64 vv, .int .i64 wd, .slice da dn dc]] w fun e w' => e = .returned (.tuple #[]) ∧ LpEnd w w' x base v (some ys) := by
  obtain ⟨i0, hi, hz0, hz1, hz2⟩ := info_parts Try.infoByte
  obtain ⟨vo, vc, rfl⟩ := own_shape h.own'
  have HKA : Hid (Kept [] w (w.alloc (.cells #[.int .i64 kd, .int .i64 vv, .int .i64 wd, .slice da dn dc] 34))) := (Kept.refl [] w).alloc _
  have HA : Hid (WdS (w.alloc (.cells #[.int .i64 kd, .int .i64 vv, .int .i64 wd, .slice da dn dc] 34)) x base (.slice vo ys.length vc) (some ys)) := h.kept HKA.out (by simp) (by simp)
  obtain ⟨cb, hcb⟩ : ∃ cb, cb = w.heap.size := ⟨_, rfl⟩
  have HCX : Hid (cb ≠ x) := by have := h.lt; show cb ≠ x; omega
  have h0 := HA.out.c0
  have h1 := HA.out.c1
  have f0 := HA.out.f0
  have f1 := HA.out.f1
  simp only [Option.isNone_some] at h1
  have c10 : (w.alloc (.cells #[.int .i64 kd, .int .i64 vv, .int .i64 wd, .slice da dn dc] 34)).cell? ⟨cb, 0, none⟩ = some (.int .i64 kd) := by rw [hcb]; simp
  have c11 : (w.alloc (.cells #[.int .i64 kd, .int .i64 vv, .int .i64 wd, .slice da dn dc] 34)).cell? ⟨cb, 1, none⟩ = some (.int .i64 vv) := by rw [hcb]; simp
  have c12 : (w.alloc (.cells #[.int .i64 kd, .int .i64 vv, .int .i64 wd, .slice da dn dc] 34)).cell? ⟨cb, 2, none⟩ = some (.int .i64 wd) := by rw [hcb]; simp
  have c13 : (w.alloc (.cells #[.int .i64 kd, .int .i64 vv, .int .i64 wd, .slice da dn dc] 34)).cell? ⟨cb, 3, none⟩ = some (.slice da dn dc) := by rw [hcb]; simp
  clear h
  have HOW := (show Hid _ from HA.out.own')
  go_enter Try.func25, Try.ntmps25
  go_wp2_with (at_builtin; refine wpList_append_own_none rfl _ _ 32 rfl base 5 i0 1 Try.underlying32 hi _ _ _ rfl HOW.out rfl ?_)
  go_end0
  exact ⟨rfl, lp_nil HA.out (HKA.out.mono (by simp))⟩

set_option maxHeartbeats 1500000 in
set_option maxRecDepth 100000 in
theorem lput_text {w : World} {x base : Nat} {v : Value} {ys : List UInt8} (h : WdS w x base v (some ys)) (hl : ys.length ≤ 90000000000) (vv wd : Int) (da : Option Addr) (dn dc : Nat) (ds : List UInt8) (hin : InB w da dn dc ds) (hdn : dn ≤ 200000) :
    Calls Try.prog 25 #[.pointer (some ⟨x, 0, none⟩), .agg #[.int .i64 4, .int .i64 vv, .int .i64 wd, .slice da dn dc]] w fun e w' => e = .returned (.tuple #[]) ∧ LpEnd w w' x base v (stWText (some ys) ds) := by
  obtain ⟨i0, hi, hz0, hz1, hz2⟩ := info_parts Try.infoByte
  obtain ⟨vo, vc, rfl⟩ := own_shape h.own'
  have HKA : Hid (Kept [] w (w.alloc (.cells #[.int .i64 4, .int .i64 vv, .int .i64 wd, .slice da dn dc] 34))) := (Kept.refl [] w).alloc _
  have HA : Hid (WdS (w.alloc (.cells #[.int .i64 4, .int .i64 vv, .int .i64 wd, .slice da dn dc] 34)) x base (.slice vo ys.length vc) (some ys)) := h.kept HKA.out (by simp) (by simp)
  obtain ⟨cb, hcb⟩ : ∃ cb, cb = w.heap.size := ⟨_, rfl⟩
  have HCX : Hid (cb ≠ x) := by have := h.lt; show cb ≠ x; omega
  have h0 := HA.out.c0
  have h1 := HA.out.c1
  have f0 := HA.out.f0
  have f1 := HA.out.f1
  simp only [Option.isNone_some] at h1
  have c10 : (w.alloc (.cells #[.int .i64 4, .int .i64 vv, .int .i64 wd, .slice da dn dc] 34)).cell? ⟨cb, 0, none⟩ = some (.int .i64 4) := by rw [hcb]; simp
  have c11 : (w.alloc (.cells #[.int .i64 4, .int .i64 vv, .int .i64 wd, .slice da dn dc] 34)).cell? ⟨cb, 1, none⟩ = some (.int .i64 vv) := by rw [hcb]; simp
  have c12 : (w.alloc (.cells #[.int .i64 4, .int .i64 vv, .int .i64 wd, .slice da dn dc] 34)).cell? ⟨cb, 2, none⟩ = some (.int .i64 wd) := by rw [hcb]; simp
  have c13 : (w.alloc (.cells #[.int .i64 4, .int .i64 vv, .int .i64 wd, .slice da dn dc] 34)).cell? ⟨cb, 3, none⟩ = some (.slice da dn dc) := by rw [hcb]; simp
  clear h
  have HIN : Hid (InB w da dn dc ds) := hin
  have h5 : (Pure.enc dn).length ≤ 5 := Pure.enc_len5 (by omega)
  have hds : ds.length = dn := hin.len
  clear hin
  go_enter Try.func25, Try.ntmps25
  go_wp2_with (fail)
  try rw [← hcb]
  generalize w.alloc _ = wa at HKA HA h0 h1 f0 f1 c10 c11 c12 c13 ⊢
  clear hcb
  refine (reftext_ok da dn dc ds _ HIN.out.len (by omega) (HIN.out.sl.kept HKA.out (by simp)) HIN.out.nil).mono ?_
  rintro e w1 ⟨vb, rfl, hnb, hown, hk⟩
  obtain ⟨g, gc, rfl, hg1, hg2, hg3, hsl⟩ := own_sl hown hnb
  have hlen : (Pure.enc dn ++ ds).length ≤ 200005 := by rw [List.length_append]; omega
  clear hown hnb hg3 HIN
  obtain ⟨bb, hbb⟩ : ∃ bb, bb = Pure.enc dn ++ ds := ⟨_, rfl⟩
  rw [← hbb] at hlen hsl ⊢
  obtain ⟨m, hm⟩ : ∃ m, m = bb.length := ⟨_, rfl⟩
  rw [← hm] at hlen ⊢
  have HM : Hid (bb.length = m) := hm.symm
  have HBB : Hid (bb = Pure.enc dn ++ ds) := hbb
  clear hm hbb
  have HA1 : Hid (WdS w1 x base (.slice vo ys.length vc) (some ys)) := HA.out.kept hk (by simp) (by simp)
  have HK1 : Hid (Kept (x :: (Value.slice vo ys.length vc).ownBlock.toList) w w1) := (HKA.out.mono (by simp)).trans hk (by simp)
  have HOW := (show Hid _ from HA1.out.own')
  have HSR : Hid (∀ j u, (bys bb)[j]? = some u → w1.cell? ((⟨g, 0, none⟩ : Addr).add j) = some u) := hsl.src
  have h20 := HA1.out.c0
  have f20 := HA1.out.f0
  clear hk hsl h0 h1 f0 f1 c10 c11 c12 c13 HA HKA
  go_wp2_with (at_builtin; refine wpList_append_own_at _ rfl _ _ 32 rfl base 5 i0 (.int .u8 0) 1 1 Try.underlying32 hi hz0 hz1 hz2 rfl (by decide) _ _ _ rfl HOW.out ⟨g, 0, none⟩ m gc (bys bb) rfl (by rw [bys_length, HM.out]; omega) HSR.out (bys_oneCell _) ?c3 ?c4 ?c5 ?_)
  case c3 => unfold maxLen; omega
  case c4 => omega
  case c5 => exact HA1.out.le
  intro v' w2 hown2 hgrow hnn hat
  obtain ⟨vo', vc', rfl⟩ := own_shape hown2
  have HE : Hid (LpEnd w (w2.setCell ⟨x, 0, none⟩ (.slice vo' (ys.length + m) vc')) x base (.slice vo ys.length vc) (some (ys ++ bb))) := lp_store HA1.out HK1.out HM.out hown2 hgrow (by simpa using hat)
  obtain ⟨u, g0, g1⟩ := lp_cell HA1.out hgrow
  clear hown2 hgrow hnn hat HA1 HOW HSR HK1 h20 f20
  go_wp2
  go_end0
  refine ⟨rfl, ?_⟩
  have h9 := HE.out
  rw [HBB.out] at h9
  simpa only [stWText, Option.map_some, hds, List.append_assoc] using h9

theorem isnumber_t {v : Int} (h : 0 ≤ v ∧ v ≤ 2147483647) (w : World) : Calls Try.prog 45 #[.int .i64 v] w fun e w' => e = .returned (.bool true) ∧ w' = w :=
  (isnumber_any v w).mono fun e w' ⟨he, hw⟩ => ⟨by rw [he, decide_eq_true h], hw⟩
theorem isnumber_f {v : Int} (h : ¬ (0 ≤ v ∧ v ≤ 2147483647)) (w : World) : Calls Try.prog 45 #[.int .i64 v] w fun e w' => e = .returned (.bool false) ∧ w' = w :=
  (isnumber_any v w).mono fun e w' ⟨he, hw⟩ => ⟨by rw [he, decide_eq_false h], hw⟩
theorem isfixed_t {v n : Int} (h : 1 ≤ n ∧ n ≤ 4 ∧ 0 ≤ v ∧ v < 256 ^ n.toNat) (w : World) : Calls Try.prog 47 #[.int .i64 v, .int .i64 n] w fun e w' => e = .returned (.bool true) ∧ w' = w :=
  (isfixed_any v n w).mono fun e w' ⟨he, hw⟩ => ⟨by rw [he, decide_eq_true h], hw⟩
theorem isfixed_f {v n : Int} (h : ¬ (1 ≤ n ∧ n ≤ 4 ∧ 0 ≤ v ∧ v < 256 ^ n.toNat)) (w : World) : Calls Try.prog 47 #[.int .i64 v, .int .i64 n] w fun e w' => e = .returned (.bool false) ∧ w' = w :=
  (isfixed_any v n w).mono fun e w' ⟨he, hw⟩ => ⟨by rw [he, decide_eq_false h], hw⟩

set_option maxHeartbeats 1500000 in
set_option maxRecDepth 100000 in
theorem lput_number_bad {w : World} {x base : Nat} {v : Value} {ys : List UInt8} (h : WdS w x base v (some ys)) (hl : ys.length ≤ 90000000000) (vv wd : Int) (da : Option Addr) (dn dc : Nat) (hv : ¬ (0 ≤ vv ∧ vv ≤ 2147483647)) :
    Calls Try.prog 25 #[.pointer (some ⟨x, 0, none⟩), .agg #[.int .i64 1, .int .i64 vv, .int .i64 wd, .slice da dn dc]] w fun e w' => e = .returned (.tuple #[]) ∧ LpEnd w w' x base v (none) := by
  obtain ⟨i0, hi, hz0, hz1, hz2⟩ := info_parts Try.infoByte
  obtain ⟨vo, vc, rfl⟩ := own_shape h.own'
  have HKA : Hid (Kept [] w (w.alloc (.cells #[.int .i64 1, .int .i64 vv, .int .i64 wd, .slice da dn dc] 34))) := (Kept.refl [] w).alloc _
  have HA : Hid (WdS (w.alloc (.cells #[.int .i64 1, .int .i64 vv, .int .i64 wd, .slice da dn dc] 34)) x base (.slice vo ys.length vc) (some ys)) := h.kept HKA.out (by simp) (by simp)
  obtain ⟨cb, hcb⟩ : ∃ cb, cb = w.heap.size := ⟨_, rfl⟩
  have HCX : Hid (cb ≠ x) := by have := h.lt; show cb ≠ x; omega
  have h0 := HA.out.c0
  have h1 := HA.out.c1
  have f0 := HA.out.f0
  have f1 := HA.out.f1
  simp only [Option.isNone_some] at h1
  have c10 : (w.alloc (.cells #[.int .i64 1, .int .i64 vv, .int .i64 wd, .slice da dn dc] 34)).cell? ⟨cb, 0, none⟩ = some (.int .i64 1) := by rw [hcb]; simp
  have c11 : (w.alloc (.cells #[.int .i64 1, .int .i64 vv, .int .i64 wd, .slice da dn dc] 34)).cell? ⟨cb, 1, none⟩ = some (.int .i64 vv) := by rw [hcb]; simp
  have c12 : (w.alloc (.cells #[.int .i64 1, .int .i64 vv, .int .i64 wd, .slice da dn dc] 34)).cell? ⟨cb, 2, none⟩ = some (.int .i64 wd) := by rw [hcb]; simp
  have c13 : (w.alloc (.cells #[.int .i64 1, .int .i64 vv, .int .i64 wd, .slice da dn dc] 34)).cell? ⟨cb, 3, none⟩ = some (.slice da dn dc) := by rw [hcb]; simp
  clear h
  have hcx := HCX.out
  have HV : Hid (¬ (0 ≤ vv ∧ vv ≤ 2147483647)) := hv
  clear hv
  go_enter Try.func25, Try.ntmps25
  go_wp2_with (fail)
  try rw [← hcb]
  generalize w.alloc _ = wa at HKA HA h0 h1 f0 f1 c10 c11 c12 c13 ⊢
  clear hcb
  refine (isnumber_f HV.out _).mono ?_
  rintro e w' ⟨rfl, hw⟩
  obtain rfl := hw.symm
  have HB : Hid (WdS (wa.setCell ⟨x, 1, none⟩ (.bool true)) x base (.slice vo ys.length vc) none) := HA.out.bad
  have HOW : Hid ((wa.setCell ⟨x, 1, none⟩ (.bool true)).ownsRow base 5 1 (.slice vo ys.length vc) ys.length (bys ys)) := Kept.nil_own HA.out.own' ((Kept.refl [x] wa).setCell (by simp) _) (fun k hk => by have := HA.out.ne; rw [hk] at this; simpa using this)
  have HK1 : Hid (Kept (x :: (Value.slice vo ys.length vc).ownBlock.toList) w (wa.setCell ⟨x, 1, none⟩ (.bool true))) := (HKA.out.mono (by simp)).setCell (by simp) _
  clear HA HKA
  go_wp2_with (at_builtin; refine wpList_append_own_none rfl _ _ 32 rfl base 5 i0 1 Try.underlying32 hi _ _ _ rfl HOW.out rfl ?_)
  go_end0
  exact ⟨rfl, lp_nil HB.out HK1.out⟩

set_option maxHeartbeats 1500000 in
set_option maxRecDepth 100000 in
theorem lput_number_ok {w : World} {x base : Nat} {v : Value} {ys : List UInt8} (h : WdS w x base v (some ys)) (hl : ys.length ≤ 90000000000) (n : Nat) (vv : Int) (hvv : vv = n) (wd : Int) (da : Option Addr) (dn dc : Nat) (hn : n ≤ 2147483647) :
    Calls Try.prog 25 #[.pointer (some ⟨x, 0, none⟩), .agg #[.int .i64 1, .int .i64 vv, .int .i64 wd, .slice da dn dc]] w fun e w' => e = .returned (.tuple #[]) ∧ LpEnd w w' x base v (some (ys ++ Pure.enc n)) := by
  obtain ⟨i0, hi, hz0, hz1, hz2⟩ := info_parts Try.infoByte
  obtain ⟨vo, vc, rfl⟩ := own_shape h.own'
  have HKA : Hid (Kept [] w (w.alloc (.cells #[.int .i64 1, .int .i64 vv, .int .i64 wd, .slice da dn dc] 34))) := (Kept.refl [] w).alloc _
  have HA : Hid (WdS (w.alloc (.cells #[.int .i64 1, .int .i64 vv, .int .i64 wd, .slice da dn dc] 34)) x base (.slice vo ys.length vc) (some ys)) := h.kept HKA.out (by simp) (by simp)
  obtain ⟨cb, hcb⟩ : ∃ cb, cb = w.heap.size := ⟨_, rfl⟩
  have HCX : Hid (cb ≠ x) := by have := h.lt; show cb ≠ x; omega
  have h0 := HA.out.c0
  have h1 := HA.out.c1
  have f0 := HA.out.f0
  have f1 := HA.out.f1
  simp only [Option.isNone_some] at h1
  have c10 : (w.alloc (.cells #[.int .i64 1, .int .i64 vv, .int .i64 wd, .slice da dn dc] 34)).cell? ⟨cb, 0, none⟩ = some (.int .i64 1) := by rw [hcb]; simp
  have c11 : (w.alloc (.cells #[.int .i64 1, .int .i64 vv, .int .i64 wd, .slice da dn dc] 34)).cell? ⟨cb, 1, none⟩ = some (.int .i64 vv) := by rw [hcb]; simp
  have c12 : (w.alloc (.cells #[.int .i64 1, .int .i64 vv, .int .i64 wd, .slice da dn dc] 34)).cell? ⟨cb, 2, none⟩ = some (.int .i64 wd) := by rw [hcb]; simp
  have c13 : (w.alloc (.cells #[.int .i64 1, .int .i64 vv, .int .i64 wd, .slice da dn dc] 34)).cell? ⟨cb, 3, none⟩ = some (.slice da dn dc) := by rw [hcb]; simp
  clear h
  have hcx := HCX.out
  have HV : Hid (0 ≤ vv ∧ vv ≤ 2147483647) := by show _ ∧ _; omega
  have h5 : (Pure.enc n).length ≤ 5 := Pure.enc_len5 hn
  have HVV : Hid (vv = n) := hvv
  clear hvv
  go_enter Try.func25, Try.ntmps25
  go_wp2_with (fail)
  try rw [← hcb]
  generalize w.alloc _ = wa at HKA HA h0 h1 f0 f1 c10 c11 c12 c13 ⊢
  clear hcb
  refine (isnumber_t HV.out _).mono ?_
  rintro e w' ⟨rfl, hw⟩
  obtain rfl := hw.symm
  have HB : Hid (WdS (wa.setCell ⟨x, 1, none⟩ (.bool false)) x base (.slice vo ys.length vc) (some ys)) := HA.out.good
  have HKB : Hid (Kept (x :: (Value.slice vo ys.length vc).ownBlock.toList) w (wa.setCell ⟨x, 1, none⟩ (.bool false))) := (HKA.out.mono (by simp)).setCell (by simp) _
  go_wp2_with (fail)
  generalize wa.setCell _ _ = wb at HB HKB ⊢
  clear hcx
  rw [HVV.out]
  refine (refnumber_ok n hn _).mono ?_
  rintro e w1 ⟨vb, rfl, hnb, hown, hk⟩
  obtain ⟨g, gc, rfl, hg1, hg2, hg3, hsl⟩ := own_sl hown hnb
  clear hown hnb hg3 HV
  have HA1 : Hid (WdS w1 x base (.slice vo ys.length vc) (some ys)) := HB.out.kept hk (by simp) (by simp)
  have HK1 : Hid (Kept (x :: (Value.slice vo ys.length vc).ownBlock.toList) w w1) := HKB.out.trans hk (by simp)
  have HOW := (show Hid _ from HA1.out.own')
  have HSR : Hid (∀ j u, (bys (Pure.enc n))[j]? = some u → w1.cell? ((⟨g, 0, none⟩ : Addr).add j) = some u) := hsl.src
  have h20 := HA1.out.c0
  have f20 := HA1.out.f0
  clear hk hsl h0 h1 f0 f1 c10 c11 c12 c13 HA HKA
  go_wp2_with (at_builtin; refine wpList_append_own_at _ rfl _ _ 32 rfl base 5 i0 (.int .u8 0) 1 1 Try.underlying32 hi hz0 hz1 hz2 rfl (by decide) _ _ _ rfl HOW.out ⟨g, 0, none⟩ (Pure.enc n).length gc (bys (Pure.enc n)) rfl (by rw [bys_length]; simp) HSR.out (bys_oneCell _) ?c3 ?c4 ?c5 ?_)
  case c3 => unfold maxLen; omega
  case c4 => omega
  case c5 => exact HA1.out.le
  intro v' w2 hown2 hgrow hnn hat
  obtain ⟨vo', vc', rfl⟩ := own_shape hown2
  have HE : Hid (LpEnd w (w2.setCell ⟨x, 0, none⟩ (.slice vo' (ys.length + (Pure.enc n).length) vc')) x base (.slice vo ys.length vc) (some (ys ++ (Pure.enc n)))) := lp_store HA1.out HK1.out (by simp) hown2 hgrow (by simpa using hat)
  obtain ⟨u, g0, g1⟩ := lp_cell HA1.out hgrow
  clear hown2 hgrow hnn hat HA1 HOW HSR HK1 h20 f20
  go_wp2
  go_end0
  exact ⟨rfl, HE.out⟩

set_option maxHeartbeats 1500000 in
set_option maxRecDepth 100000 in
theorem lput_fixed_bad {w : World} {x base : Nat} {v : Value} {ys : List UInt8} (h : WdS w x base v (some ys)) (hl : ys.length ≤ 90000000000) (vv wd : Int) (da : Option Addr) (dn dc : Nat) (hv : ¬ (1 ≤ wd ∧ wd ≤ 4 ∧ 0 ≤ vv ∧ vv < 256 ^ wd.toNat)) :
    Calls Try.prog 25 #[.pointer (some ⟨x, 0, none⟩), .agg #[.int .i64 2, .int .i64 vv, .int .i64 wd, .slice da dn dc]] w fun e w' => e = .returned (.tuple #[]) ∧ LpEnd w w' x base v (none) := by
  obtain ⟨i0, hi, hz0, hz1, hz2⟩ := info_parts Try.infoByte
  obtain ⟨vo, vc, rfl⟩ := own_shape h.own'
  have HKA : Hid (Kept [] w (w.alloc (.cells #[.int .i64 2, .int .i64 vv, .int .i64 wd, .slice da dn dc] 34))) := (Kept.refl [] w).alloc _
  have HA : Hid (WdS (w.alloc (.cells #[.int .i64 2, .int .i64 vv, .int .i64 wd, .slice da dn dc] 34)) x base (.slice vo ys.length vc) (some ys)) := h.kept HKA.out (by simp) (by simp)
  obtain ⟨cb, hcb⟩ : ∃ cb, cb = w.heap.size := ⟨_, rfl⟩
  have HCX : Hid (cb ≠ x) := by have := h.lt; show cb ≠ x; omega
  have h0 := HA.out.c0
  have h1 := HA.out.c1
  have f0 := HA.out.f0
  have f1 := HA.out.f1
  simp only [Option.isNone_some] at h1
  have c10 : (w.alloc (.cells #[.int .i64 2, .int .i64 vv, .int .i64 wd, .slice da dn dc] 34)).cell? ⟨cb, 0, none⟩ = some (.int .i64 2) := by rw [hcb]; simp
  have c11 : (w.alloc (.cells #[.int .i64 2, .int .i64 vv, .int .i64 wd, .slice da dn dc] 34)).cell? ⟨cb, 1, none⟩ = some (.int .i64 vv) := by rw [hcb]; simp
  have c12 : (w.alloc (.cells #[.int .i64 2, .int .i64 vv, .int .i64 wd, .slice da dn dc] 34)).cell? ⟨cb, 2, none⟩ = some (.int .i64 wd) := by rw [hcb]; simp
  have c13 : (w.alloc (.cells #[.int .i64 2, .int .i64 vv, .int .i64 wd, .slice da dn dc] 34)).cell? ⟨cb, 3, none⟩ = some (.slice da dn dc) := by rw [hcb]; simp
  clear h
  have hcx := HCX.out
  have HV : Hid (¬ (1 ≤ wd ∧ wd ≤ 4 ∧ 0 ≤ vv ∧ vv < 256 ^ wd.toNat)) := hv
  clear hv
  go_enter Try.func25, Try.ntmps25
  go_wp2_with (fail)
  try rw [← hcb]
  generalize w.alloc _ = wa at HKA HA h0 h1 f0 f1 c10 c11 c12 c13 ⊢
  clear hcb
  refine (isfixed_f HV.out _).mono ?_
  rintro e w' ⟨rfl, hw⟩
  obtain rfl := hw.symm
  have HB : Hid (WdS (wa.setCell ⟨x, 1, none⟩ (.bool true)) x base (.slice vo ys.length vc) none) := HA.out.bad
  have HOW : Hid ((wa.setCell ⟨x, 1, none⟩ (.bool true)).ownsRow base 5 1 (.slice vo ys.length vc) ys.length (bys ys)) := Kept.nil_own HA.out.own' ((Kept.refl [x] wa).setCell (by simp) _) (fun k hk => by have := HA.out.ne; rw [hk] at this; simpa using this)
  have HK1 : Hid (Kept (x :: (Value.slice vo ys.length vc).ownBlock.toList) w (wa.setCell ⟨x, 1, none⟩ (.bool true))) := (HKA.out.mono (by simp)).setCell (by simp) _
  clear HA HKA
  go_wp2_with (at_builtin; refine wpList_append_own_none rfl _ _ 32 rfl base 5 i0 1 Try.underlying32 hi _ _ _ rfl HOW.out rfl ?_)
  go_end0
  exact ⟨rfl, lp_nil HB.out HK1.out⟩

set_option maxHeartbeats 1500000 in
set_option maxRecDepth 100000 in
theorem lput_fixed_ok {w : World} {x base : Nat} {v : Value} {ys : List UInt8} (h : WdS w x base v (some ys)) (hl : ys.length ≤ 90000000000) (n : Nat) (vv : Int) (hvv : vv = n) (wn : Nat) (wd : Int) (hwd : wd = wn) (da : Option Addr) (dn dc : Nat) (hn1 : 1 ≤ wn) (hn4 : wn ≤ 4) (hn : n < 256 ^ wn) :
    Calls Try.prog 25 #[.pointer (some ⟨x, 0, none⟩), .agg #[.int .i64 2, .int .i64 vv, .int .i64 wd, .slice da dn dc]] w fun e w' => e = .returned (.tuple #[]) ∧ LpEnd w w' x base v (some (ys ++ Pure.fix n wn)) := by
  obtain ⟨i0, hi, hz0, hz1, hz2⟩ := info_parts Try.infoByte
  obtain ⟨vo, vc, rfl⟩ := own_shape h.own'
  have HKA : Hid (Kept [] w (w.alloc (.cells #[.int .i64 2, .int .i64 vv, .int .i64 wd, .slice da dn dc] 34))) := (Kept.refl [] w).alloc _
  have HA : Hid (WdS (w.alloc (.cells #[.int .i64 2, .int .i64 vv, .int .i64 wd, .slice da dn dc] 34)) x base (.slice vo ys.length vc) (some ys)) := h.kept HKA.out (by simp) (by simp)
  obtain ⟨cb, hcb⟩ : ∃ cb, cb = w.heap.size := ⟨_, rfl⟩
  have HCX : Hid (cb ≠ x) := by have := h.lt; show cb ≠ x; omega
  have h0 := HA.out.c0
  have h1 := HA.out.c1
  have f0 := HA.out.f0
  have f1 := HA.out.f1
  simp only [Option.isNone_some] at h1
  have c10 : (w.alloc (.cells #[.int .i64 2, .int .i64 vv, .int .i64 wd, .slice da dn dc] 34)).cell? ⟨cb, 0, none⟩ = some (.int .i64 2) := by rw [hcb]; simp
  have c11 : (w.alloc (.cells #[.int .i64 2, .int .i64 vv, .int .i64 wd, .slice da dn dc] 34)).cell? ⟨cb, 1, none⟩ = some (.int .i64 vv) := by rw [hcb]; simp
  have c12 : (w.alloc (.cells #[.int .i64 2, .int .i64 vv, .int .i64 wd, .slice da dn dc] 34)).cell? ⟨cb, 2, none⟩ = some (.int .i64 wd) := by rw [hcb]; simp
  have c13 : (w.alloc (.cells #[.int .i64 2, .int .i64 vv, .int .i64 wd, .slice da dn dc] 34)).cell? ⟨cb, 3, none⟩ = some (.slice da dn dc) := by rw [hcb]; simp
  clear h
  have hcx := HCX.out
  have HV : Hid (1 ≤ wd ∧ wd ≤ 4 ∧ 0 ≤ vv ∧ vv < 256 ^ wd.toNat) := by
    refine ⟨by omega, by omega, by omega, ?_⟩
    rw [hwd, hvv, Int.toNat_natCast]
    exact_mod_cast hn
  have HN : Hid (n < 256 ^ wn) := hn
  have HVV : Hid (vv = n ∧ wd = wn) := ⟨hvv, hwd⟩
  clear hn hvv hwd
  go_enter Try.func25, Try.ntmps25
  go_wp2_with (fail)
  try rw [← hcb]
  generalize w.alloc _ = wa at HKA HA h0 h1 f0 f1 c10 c11 c12 c13 ⊢
  clear hcb
  refine (isfixed_t HV.out _).mono ?_
  rintro e w' ⟨rfl, hw⟩
  obtain rfl := hw.symm
  have HB : Hid (WdS (wa.setCell ⟨x, 1, none⟩ (.bool false)) x base (.slice vo ys.length vc) (some ys)) := HA.out.good
  have HKB : Hid (Kept (x :: (Value.slice vo ys.length vc).ownBlock.toList) w (wa.setCell ⟨x, 1, none⟩ (.bool false))) := (HKA.out.mono (by simp)).setCell (by simp) _
  go_wp2_with (fail)
  generalize wa.setCell _ _ = wb at HB HKB ⊢
  clear hcx
  rw [HVV.out.1, HVV.out.2]
  refine (reffixed_ok n wn hn1 hn4 HN.out _).mono ?_
  rintro e w1 ⟨ao, gc, rfl, hfr, hne, hk⟩
  obtain ⟨ad, rfl⟩ : ∃ ad, ao = some ad := by cases ao with | none => exact absurd rfl hne | some ad => exact ⟨ad, rfl⟩
  have hsl := hfr.1
  clear hfr hne HV HN
  have HA1 : Hid (WdS w1 x base (.slice vo ys.length vc) (some ys)) := HB.out.kept hk (by simp) (by simp)
  have HK1 : Hid (Kept (x :: (Value.slice vo ys.length vc).ownBlock.toList) w w1) := HKB.out.trans hk (by simp)
  have HOW := (show Hid _ from HA1.out.own')
  have HSR : Hid (∀ j u, (bys (Pure.fix n wn))[j]? = some u → w1.cell? (ad.add j) = some u) := hsl.src
  have h20 := HA1.out.c0
  have f20 := HA1.out.f0
  clear hk hsl h0 h1 f0 f1 c10 c11 c12 c13 HA HKA
  go_wp2_with (at_builtin; refine wpList_append_own_at _ rfl _ _ 32 rfl base 5 i0 (.int .u8 0) 1 1 Try.underlying32 hi hz0 hz1 hz2 rfl (by decide) _ _ _ rfl HOW.out ad wn gc (bys (Pure.fix n wn)) rfl (by rw [bys_length, Pure.fix_len]; omega) HSR.out (bys_oneCell _) ?c3 ?c4 ?c5 ?_)
  case c3 => unfold maxLen; omega
  case c4 => omega
  case c5 => exact HA1.out.le
  intro v' w2 hown2 hgrow hnn hat
  obtain ⟨vo', vc', rfl⟩ := own_shape hown2
  have HE : Hid (LpEnd w (w2.setCell ⟨x, 0, none⟩ (.slice vo' (ys.length + wn) vc')) x base (.slice vo ys.length vc) (some (ys ++ (Pure.fix n wn)))) := lp_store HA1.out HK1.out (Pure.fix_len _ _) hown2 hgrow (by simpa using hat)
  obtain ⟨u, g0, g1⟩ := lp_cell HA1.out hgrow
  clear hown2 hgrow hnn hat HA1 HOW HSR HK1 h20 f20
  go_wp2
  go_end0
  exact ⟨rfl, HE.out⟩

/-- put: what the document says was written. -/
theorem lput_any {w : World} {x base : Nat} {v : Value} {o : Option (List UInt8)} (h : WdS w x base v o) (hl : ∀ ys, o = some ys → ys.length ≤ 90000000000) (kd vv wd : Int) (da : Option Addr) (dn dc : Nat) (ds : List UInt8) (hin : InB w da dn dc ds) (hdn : dn ≤ 200000) :
    Calls Try.prog 25 #[.pointer (some ⟨x, 0, none⟩), .agg #[.int .i64 kd, .int .i64 vv, .int .i64 wd, .slice da dn dc]] w fun e w' => e = .returned (.tuple #[]) ∧ LpEnd w w' x base v (stPut o kd vv wd ds) := by
  cases o with
  | none =>
    have e : stPut none kd vv wd ds = none := by unfold stPut; simp [stWNumber, stWFixed, stWRaw, stWText]
    rw [e]
    exact lput_bad h kd vv wd da dn dc
  | some ys =>
    have hy := hl ys rfl
    by_cases k1 : kd = 1
    · subst k1
      show Calls _ _ _ _ fun e w' => e = _ ∧ LpEnd w w' x base v (stWNumber (some ys) vv)
      by_cases hv : 0 ≤ vv ∧ vv ≤ 2147483647
      · simp only [stWNumber, Option.bind_some, if_pos hv]
        exact lput_number_ok h hy vv.toNat vv (by omega) wd da dn dc (by omega)
      · simp only [stWNumber, Option.bind_some, if_neg hv]
        exact lput_number_bad h hy vv wd da dn dc hv
    by_cases k2 : kd = 2
    · subst k2
      show Calls _ _ _ _ fun e w' => e = _ ∧ LpEnd w w' x base v (stWFixed (some ys) vv wd)
      by_cases hv : 1 ≤ wd ∧ wd ≤ 4 ∧ 0 ≤ vv ∧ vv < 256 ^ wd.toNat
      · simp only [stWFixed, Option.bind_some, if_pos hv]
        refine lput_fixed_ok h hy vv.toNat vv (by omega) wd.toNat wd (by omega) da dn dc (by omega) (by omega) ?_
        have h1 := hv.2.2.2
        obtain ⟨m, rfl⟩ := Int.eq_ofNat_of_zero_le hv.2.2.1
        rw [Int.toNat_natCast]
        exact Int.ofNat_lt.1 (by rw [Int.natCast_pow]; exact h1)
      · simp only [stWFixed, Option.bind_some, if_neg hv]
        exact lput_fixed_bad h hy vv wd da dn dc hv
    by_cases k3 : kd = 3
    · subst k3
      exact lput_raw h hy vv wd da dn dc ds hin hdn
    by_cases k4 : kd = 4
    · subst k4
      exact lput_text h hy vv wd da dn dc ds hin hdn
    unfold stPut
    rw [if_neg k1, if_neg k2, if_neg k3, if_neg k4]
    exact lput_other h hy kd vv wd da dn dc (by simpa using k1) (by simpa using k2) (by simpa using k3) (by simpa using k4)

end Go.Proofs.Ytjmameknbnflaab
