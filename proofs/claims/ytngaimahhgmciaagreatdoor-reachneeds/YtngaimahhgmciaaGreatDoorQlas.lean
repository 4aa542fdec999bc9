import Derived.Test.YtngaimahhgmciaaGreatDoorQpes
import Derived.BigFrame
namespace Go.Proofs.YtngaimahhgmciaaGreatDoor
open Go.RowKit Go.Lib Go.Sort
set_option linter.unusedVariables false
set_option linter.unusedSimpArgs false
theorem InZ.far {w : World} {ao : Option Addr} {n c : Nat} {L : List Rz} (h : InZ w ao n c L) : L ≠ [] → ∀ a, ao = some a → a.block < w.heap.size := fun hne a ha => by
 obtain ⟨b, off, e, hr⟩ := h.rss 0 (List.length_pos_iff.2 hne)
 rw [ha] at e
 cases e
 exact World.block_lt_of_cell? _ _ (hr 0 _ (List.getElem?_eq_getElem (by rw [Rz.len]; omega)))
theorem InZ.kp9 {o : Nat → Prop} {w w' : World} {ao : Option Addr} {n c : Nat} {L : List Rz} (h : InZ w ao n c L) (hk : Kp o w w') (hn : ∀ k, k < w.heap.size → ¬ o k) : InZ w' ao n c L := by
 refine ⟨h.len, h.le, h.max, fun i hi => ?_, h.nil⟩
 obtain ⟨b, off, e, hr⟩ := h.rss i hi
 exact ⟨b, off, e, fun j v hv => hk.cell (hr j v hv) (hn _ (World.block_lt_of_cell? _ _ (hr j v hv)))⟩
theorem own_max9 {w : World} {base n c : Nat} {ao : Option Addr} {C : List (List UInt8)} (h : OwnI w base (.slice ao n c) C) : n ≤ 9223372036854775807 := by
 have e0 := h.ids.2.1
 rcases h.1.2 with ⟨_, e⟩ | ⟨g, cap, cur, e, _⟩
 ·omega
 ·injection e with e1 _ _
  subst e1
  obtain ⟨cur, _, _, h1, h2, _⟩ := OwnI.row (h := h)
  unfold maxLen at h2
  omega
theorem wpList_load_midw9 {P : Program} {ops : Array Oper} {rest : List Oper} {o : Oper} {a : Act} {w : World} {Q : Exit → Act → World → Prop} (ty : TypeId) (x : Operand) (ho : o.op = .load ty x) (b off : Nat) (hx : a.eval x = .pointer (some ⟨b, off, none⟩)) (cs : List Value) (d : TypeDesc) (hc : w.rangeAt b off cs) (hu : P.underlying ty = some d) (hd : d.isRow = true) (hi : (P.info? ty).map (·.size) = some cs.length)
  (hw : Region.wanted o (yielded ops a.tmps) = true) (h : wpList P ops Q rest (a.put o.dst (.agg cs.toArray)) w) : wpList P ops Q (o :: rest) a w :=
 BigFrame.wpList_want hw fun _ hK => wp_load_mid ty x ho b off hx cs d hc hu hd hi (hK _ _ h)
theorem wrap_small9 (k : Nat) (h : k ≤ 9223372036854775807) : IntKind.i64.wrap (k : Int) = (k : Int) := by
 simp [IntKind.wrap, IntKind.min, IntKind.max, IntKind.bits, IntKind.signed]
 omega
def ErrN (w : World) (lo : Nat) (p : Option (Int × List UInt8)) (N : List (List UInt8)) (v ev : Value) : Prop :=
 (p = none ∧ ev = .nilIface ∧ OwnI w lo v (canon N)) ∨ ∃ cd i eb, p = some (cd, i) ∧ v = .slice none 0 0 ∧ ev = faultV eb ∧ FltAt w eb opNeed i (.iface 57 (.int .i64 cd)) ∧ lo ≤ eb ∧ i.length = 32
theorem NdM.tup {o1 : Nat → Prop} {St : World → Prop} {M : List (List UInt8 × List UInt8)} {roots : List (List UInt8)} {w w' : World} {e : Ending} (h : NdM o1 St M roots w e w') :
  ∃ v ev, e = .returned (.tuple #[v, ev]) ∧ ErrN w' w.heap.size (picks (walkW (mpf M) [] roots).2.1.B (walkW (mpf M) [] roots).2.2 (walkW (mpf M) [] roots).2.1.L) (walkW (mpf M) [] roots).2.1.N v ev := by
 rcases h.ans with ⟨v, h1, h2, h3⟩ | ⟨cd, i, eb, h1, h2, h3, h4, h5⟩
 ·exact ⟨_, _, h2, .inl ⟨h1, rfl, h3⟩⟩
 ·exact ⟨_, _, h2, .inr ⟨cd, i, eb, h1, rfl, rfl, h3, h4, h5⟩⟩
theorem picks_cases {B R L : List (List UInt8)} {cd : Int} {i : List UInt8} (h : picks B R L = some (cd, i)) : (cd = 100 ∨ cd = 101) ∨ (cd = 102 ∧ L ≠ [] ∧ i = (canon L).getD 0 []) := by
 unfold picks at h
 split at h
 ·cases h; exact .inl (.inl rfl)
 ·split at h
  ·cases h; exact .inl (.inr rfl)
  ·split at h
   ·next hL => cases h; exact .inr ⟨rfl, hL, rfl⟩
   ·cases h
theorem code_nil9 (w : World) : Calls Tryz.prog 25 #[.nilIface] w fun e w' => e = .returned (.int .i64 0) ∧ Kept [] w w' := by
 go_enter Tryz.func25, Tryz.ntmps25
 go_wp2
 go_ret
 exact ⟨rfl, (Kept.refl _ _).alloc _⟩
def codeOf (p : Option (Int × List UInt8)) : Int := match p with
 | none => 0
 | some x => x.1
theorem code9_ok {w : World} {lo : Nat} {p : Option (Int × List UInt8)} {N : List (List UInt8)} {v ev : Value} (gl : GlE w) (h : ErrN w lo p N v ev) :
  Calls Tryz.prog 25 #[ev] w fun e w' => e = .returned (.int .i64 (codeOf p)) ∧ Kept [] w w' := by
 rcases h with ⟨rfl, rfl, _⟩ | ⟨cd, i, eb, rfl, _, rfl, hf, _, hi⟩
 ·exact code_nil9 w
 ·exact codeErrno_ok 1 _ cd w gl ⟨eb, _, rfl, hf.err hi, rfl⟩
theorem OwnI.at9 {w : World} {base n c : Nat} {ao : Option Addr} {C : List (List UInt8)} (h : OwnI w base (.slice ao n c) C) (hn : 0 < n) : ∃ g, ao = some ⟨g, 0, none⟩ := by
 rcases h.1.2 with ⟨e, e2⟩ | ⟨g, cap, cur, e, _⟩
 ·injection e with e1 e3 e4
  omega
 ·injection e with e1 _ _
  exact ⟨g, e1⟩
theorem ErrN.kp {o : Nat → Prop} {w w' : World} {lo : Nat} {p : Option (Int × List UInt8)} {N : List (List UInt8)} {v ev : Value} (h : ErrN w lo p N v ev) (hk : Kp o w w') (hn : ∀ b, lo ≤ b → ¬ o b) : ErrN w' lo p N v ev := by
 rcases h with ⟨h1, h2, h3⟩ | ⟨cd, i, eb, h1, h2, h3, h4, h5, h6⟩
 ·exact .inl ⟨h1, h2, h3.kp9 hk (fun g hg => hn g (own_far9 h3.1 g hg))⟩
 ·exact .inr ⟨cd, i, eb, h1, h2, h3, hk.fault h4 (hn eb h5), h5, h6⟩
theorem ErrN.kept {w w' : World} {lo : Nat} {p : Option (Int × List UInt8)} {N : List (List UInt8)} {v ev : Value} (h : ErrN w lo p N v ev) (hk : Kept [] w w') : ErrN w' lo p N v ev := h.kp (o := fun _ => False) (Kp.ofKept hk (by simp)) (fun _ _ h => h)
