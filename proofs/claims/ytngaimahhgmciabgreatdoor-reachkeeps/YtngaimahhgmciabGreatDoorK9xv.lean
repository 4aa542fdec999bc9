import Derived.Test.YtngaimahhgmciabGreatDoorK9ev
import Derived.Test.YtngaimahhgmciabGreatDoorEasv
import Derived.WalkKit
import Derived.LaidEql
import Derived.Stop.Asserts
import Derived.RowKitTokens
namespace Go.Proofs.YtngaimahhgmciabGreatDoor
section
open Go.RowKit Go.Extern
set_option linter.unusedVariables false
set_option linter.unusedSimpArgs false

def errnoV (c : Int) : Value := .iface 38 (.int .i64 c)
def faultV (eb : Nat) : Value := .iface 86 (.pointer (some ⟨eb, 0, none⟩))
/-- k Faults, one within the other, and in the end z. -/
def Chn (w : World) : Nat → Value → Value → Prop
  | 0, v, z => v = z
  | k + 1, v, z => ∃ eb u, v = faultV eb ∧ w.cell? ⟨eb, 34, none⟩ = some u ∧ Chn w k u z
/-- No Fault. -/
def NoF (z : Value) : Prop := ∀ eb, z ≠ faultV eb
theorem noF_errno (c : Int) : NoF (errnoV c) := fun eb e => by
  unfold errnoV faultV at e
  injection e with e _
  exact absurd e (by decide)

theorem Chn.uniq {w : World} {z : Value} (hz : NoF z) : ∀ {k k' : Nat} {v : Value}, Chn w k v z → Chn w k' v z → k = k'
  | 0, 0, _, _, _ => rfl
  | 0, k' + 1, v, h, h' => by
    obtain ⟨eb, u, e, _⟩ := h'
    have h0 : v = z := h
    exact absurd (h0.symm.trans e) (hz eb)
  | k + 1, 0, v, h, h' => by
    obtain ⟨eb, u, e, _⟩ := h
    have h0 : v = z := h'
    exact absurd (h0.symm.trans e) (hz eb)
  | k + 1, k' + 1, v, h, h' => by
    obtain ⟨eb, u, e, hc, hr⟩ := h
    obtain ⟨eb', u', e', hc', hr'⟩ := h'
    rw [e] at e'
    unfold faultV at e'
    injection e' with _ e'
    injection e' with e'
    injection e' with e'
    injection e' with e' _ _
    subst e'
    rw [hc] at hc'
    injection hc' with hc'
    subst hc'
    rw [Chn.uniq hz hr hr']

theorem Chn.kept {w w' : World} {l : List Nat} (hk : Kept l w w') : ∀ {k : Nat} {v z : Value}, Chn w k v z → (∀ g, g ∈ l → ∀ u, w.cell? ⟨g, 34, none⟩ ≠ some u) → Chn w' k v z
  | 0, _, _, h, _ => h
  | k + 1, v, z, ⟨eb, u, e, hc, hr⟩, hl => ⟨eb, u, e, hk.cellOf hc (fun hm => hl eb hm u hc), Chn.kept hk hr hl⟩

open Classical in
noncomputable def cdep (w : World) (v z : Value) : Nat := if h : ∃ k, Chn w k v z then Classical.choose h else 0
theorem cdep_eq {w : World} {v z : Value} {k : Nat} (hz : NoF z) (h : Chn w k v z) : cdep w v z = k := by
  unfold cdep
  rw [dif_pos ⟨k, h⟩]
  exact Chn.uniq hz (Classical.choose_spec (⟨k, h⟩ : ∃ k, Chn w k v z)) h

set_option maxHeartbeats 4000000 in
set_option maxRecDepth 100000 in
theorem asE_ok (k : Nat) (v : Value) (c : Int) (t a : Addr) (old : Value) (w : World) (h : Chn w k v (errnoV c)) (ha : w.cell? a = some (.pointer (some t))) (ht0 : w.cell? t = some old) (hf0 : w.frozen? t = false) :
    Calls Tryz.prog 40 #[v, .iface 85 (.pointer (some t)), .agg #[.pointer (some ⟨4, 85, none⟩), .pointer (some a), .int .u64 150], .iface 126 (.agg #[.pointer (some ⟨4, 38, none⟩)])] w fun e w' => e = .returned (.bool true) ∧ w'.cell? t = some (.int .i64 c) ∧ Kept [t.block] w w' := by
  have x1 := @run_callFunc_extern Tryz.prog 37 _ (fun args => ReflectliteValue.unpack (args.getD 0 (.tuple #[]))) Tryz.func37 (by kernel_rfl) (by kernel_rfl) (by kernel_rfl) (by kernel_rfl)
  have x7 := @run_callFunc_extern Tryz.prog 41 _ (ReflectliteType.typeOf) Tryz.func41 (by kernel_rfl) (by kernel_rfl) (by kernel_rfl) (by kernel_rfl)
  have x8 := @run_callFunc_extern Tryz.prog 124 _ (ReflectliteType.relation "AssignableTo" ReflectliteType.assignableTo) Tryz.func124 (by kernel_rfl) (by kernel_rfl) (by kernel_rfl) (by kernel_rfl)
  have x9 := @run_callFunc_extern Tryz.prog 51 _ (ReflectliteValue.method (ReflectliteValue.valueError "reflectlite.Value.Elem" 0) ReflectliteValue.elem) Tryz.func51 (by kernel_rfl) (by kernel_rfl) (by kernel_rfl) (by kernel_rfl)
  have x10 := @run_callFunc_extern Tryz.prog 52 _ (ReflectliteValue.set) Tryz.func52 (by kernel_rfl) (by kernel_rfl) (by kernel_rfl) (by kernel_rfl)
  have z3 := Tryz.mAssi
  have z12 := Tryz.tOF
  have z13 := Tryz.assFE
  have z14 := Tryz.vE
  have z16 := Tryz.noAsF
  have z17 := Tryz.unF
  have z18 := Tryz.mUn
  have z19 := Tryz.tOE
  have z20 := Tryz.assE
  have HH := hide h
  have HA := hide (And.intro ha (And.intro ht0 hf0))
  clear h ha ht0 hf0
  go_enter Tryz.func40, Tryz.ntmps40
  go_wp2
  obtain ⟨W0, hW0⟩ : ∃ W0, W0 = w.alloc (.cells #[.pointer (some ⟨4, 85, none⟩), .pointer (some a), .int .u64 150] 104) := ⟨_, rfl⟩
  rw [← hW0]
  have HK0 : Hid (Kept [] w W0) := hide (by rw [hW0]; exact (Kept.refl [] w).alloc _)
  have hrow : W0.heap[w.heap.size]? = some (.cells #[.pointer (some ⟨4, 85, none⟩), .pointer (some a), .int .u64 150] 104 (0, 0)) := by rw [hW0]; exact new_atK _ _
  have HRW := hide hrow
  clear hW0 hrow
  generalize w.heap.size = bx at HRW ⊢
  go_loopw [0] (fun x wr => ∃ (j : Nat) (u : Value), x = u ∧ wr = W0 ∧ Hid (Chn W0 j u (errnoV c))) (fun x wr => cdep W0 x (errnoV c))
  case atStart => exact ⟨k, v, rfl, rfl, hide (HH.out.kept HK0.out (by simp))⟩
  case round =>
    obtain ⟨j, u, hxu, hwr, HC⟩ := hrel
    obtain rfl := hxu.symm
    obtain rfl := hwr.symm
    clear HH
    have htb : t.block < w.heap.size := World.block_lt_of_cell? _ _ HA.out.2.1
    cases j with
    | zero =>
      obtain rfl : u = errnoV c := HC.out
      have hrow := HRW.out
      have c0 : W0.cell? ⟨bx, 0, none⟩ = some (.pointer (some ⟨4, 85, none⟩)) := by rw [cell_of_row _ _ _ _ _ _ hrow]; rfl
      have c1 : W0.cell? ⟨bx, 1, none⟩ = some (.pointer (some a)) := by rw [cell_of_row _ _ _ _ _ _ hrow]; rfl
      have c2 : W0.cell? ⟨bx, 2, none⟩ = some (.int .u64 150) := by rw [cell_of_row _ _ _ _ _ _ hrow]; rfl
      have haW := HK0.out.cellOf HA.out.1 (by simp)
      have htW := HK0.out.cellOf HA.out.2.1 (by simp)
      have hfW : W0.frozen? t = false := by rw [HK0.out.frozen htb (by simp)]; exact HA.out.2.2
      have htb0 : t.block < W0.heap.size := World.block_lt_of_cell? _ _ htW
      have z10 := Tryz.elVE a t W0 haW
      have z11 := Tryz.setE t ⟨W0.heap.size, 0, none⟩ c old (W0.alloc (.cells #[.int .i64 c] 38)) (by rw [World.cell?_alloc_at _ _ _ _ rfl]; rfl) (by rw [World.cell?_alloc_lt _ _ t htb0]; exact htW) (by rw [World.frozen?_alloc_old _ _ t (Nat.ne_of_lt htb0)]; exact hfW)
      have HF : Hid ((W0.alloc (.cells #[.int .i64 c] 38)).cell? t = some old) := hide (by rw [World.cell?_alloc_lt _ _ t htb0]; exact htW)
      unfold errnoV
      clear hrow haW htW hfW htb0 HC
      go_wp2
      go_ret
      exact ⟨rfl, World.cell?_setCell_same _ _ _ HF.out, ((HK0.out.mono (by simp)).alloc _).setCell (fun _ => by simp) _⟩
    | succ j =>
      obtain ⟨eb, u', rfl, hc, hr⟩ := HC.out
      have hun := unwrap_ok eb u' W0 hc
      have HM : Hid (cdep W0 u' (errnoV c) < cdep W0 (faultV eb) (errnoV c)) := hide (by rw [cdep_eq (noF_errno c) hr, cdep_eq (noF_errno c) HC.out]; omega)
      have HR := hide hr
      clear HC hr hc
      have hsh : (∃ n, u' = .iface 38 (.int .i64 n)) ∨ ∃ e2, u' = .iface 86 (.pointer (some ⟨e2, 0, none⟩)) := by
        cases j with
        | zero => exact .inl ⟨c, HR.out⟩
        | succ j => obtain ⟨e2, _, e, _⟩ := HR.out; exact .inr ⟨e2, e⟩
      unfold faultV
      rcases hsh with ⟨n, rfl⟩ | ⟨e2, rfl⟩
      · go_wp2_with (go_at_call 118; refine hun.mono ?_; rintro e w' ⟨rfl, hww⟩; obtain rfl := hww.symm)
        go_roundw
        case rel => exact ⟨j, _, rfl, trivial, HR⟩
        case measure => exact HM.out
      · go_wp2_with (go_at_call 118; refine hun.mono ?_; rintro e w' ⟨rfl, hww⟩; obtain rfl := hww.symm)
        go_roundw
        case rel => exact ⟨j, _, rfl, trivial, HR⟩
        case measure => exact HM.out

def GlE (w : World) : Prop := w.cell? ⟨0, 0, none⟩ = some (.iface 126 (.agg #[.pointer (some ⟨4, 30, none⟩)]))

theorem Chn.shape {w : World} {k : Nat} {v : Value} {c : Int} (h : Chn w k v (errnoV c)) : (∃ n, v = .iface 38 (.int .i64 n)) ∨ ∃ e2, v = .iface 86 (.pointer (some ⟨e2, 0, none⟩)) := by
  cases k with
  | zero => exact .inl ⟨c, h⟩
  | succ j => obtain ⟨e2, _, e, _⟩ := h; exact .inr ⟨e2, e⟩

set_option maxHeartbeats 4000000 in
set_option maxRecDepth 100000 in
theorem asErrno_ok (k : Nat) (v : Value) (c : Int) (t : Addr) (old : Value) (w : World) (hg : GlE w) (h : Chn w k v (errnoV c)) (ht0 : w.cell? t = some old) (hf0 : w.frozen? t = false) :
    Calls Tryz.prog 26 #[v, .iface 85 (.pointer (some t))] w fun e w' => e = .returned (.bool true) ∧ w'.cell? t = some (.int .i64 c) ∧ Kept [t.block] w w' := by
  have x1 := @run_callFunc_extern Tryz.prog 37 _ (fun args => ReflectliteValue.unpack (args.getD 0 (.tuple #[]))) Tryz.func37 (by kernel_rfl) (by kernel_rfl) (by kernel_rfl) (by kernel_rfl)
  have x2 := @run_callFunc_extern Tryz.prog 38 _ (ReflectliteValue.methodAny (ReflectliteValue.valueError "reflectlite.Value.Type" 0) (fun t _ _ _ => ReflectliteType.toType t)) Tryz.func38 (by kernel_rfl) (by kernel_rfl) (by kernel_rfl) (by kernel_rfl)
  have x3 := @run_callFunc_extern Tryz.prog 39 _ (ReflectliteValue.method (ReflectliteValue.valueError "reflectlite.Value.IsNil" 0) ReflectliteValue.isNil) Tryz.func39 (by kernel_rfl) (by kernel_rfl) (by kernel_rfl) (by kernel_rfl)
  have x4 := @run_callFunc_extern Tryz.prog 111 _ (ReflectliteType.abiMethod fun t => do pure (.int .u8 (← Rtype.kind t))) Tryz.func111 (by kernel_rfl) (by kernel_rfl) (by kernel_rfl) (by kernel_rfl)
  have x5 := @run_callFunc_extern Tryz.prog 126 _ (ReflectliteType.method ReflectliteType.elem) Tryz.func126 (by kernel_rfl) (by kernel_rfl) (by kernel_rfl) (by kernel_rfl)
  have x6 := @run_callFunc_extern Tryz.prog 127 _ (ReflectliteType.relation "Implements" ReflectliteType.implements_) Tryz.func127 (by kernel_rfl) (by kernel_rfl) (by kernel_rfl) (by kernel_rfl)
  have z0 := Tryz.mKind
  have z1 := Tryz.mElem
  have z2 := Tryz.mImpl
  have z4 := Tryz.vOfE
  have z5 := Tryz.tyE
  have z6 := Tryz.kPE
  have z7 := Tryz.elTE
  have z8 := Tryz.impE
  have z15 := Tryz.kEE
  have z9 := Tryz.isNE ⟨w.heap.size, 0, none⟩ t ((w.alloc (.cells #[.pointer (some t)] 85)).alloc (.cells #[.pointer (some ⟨4, 85, none⟩), .pointer (some ⟨w.heap.size, 0, none⟩), .int .u64 150] 104)) (by simp)
  have hk2 : Kept [] w ((w.alloc (.cells #[.pointer (some t)] 85)).alloc (.cells #[.pointer (some ⟨4, 85, none⟩), .pointer (some ⟨w.heap.size, 0, none⟩), .int .u64 150] 104)) := ((Kept.refl [] w).alloc _).alloc _
  have hg2 : ((w.alloc (.cells #[.pointer (some t)] 85)).alloc (.cells #[.pointer (some ⟨4, 85, none⟩), .pointer (some ⟨w.heap.size, 0, none⟩), .int .u64 150] 104)).cell? ⟨0, 0, none⟩ = some (.iface 126 (.agg #[.pointer (some ⟨4, 30, none⟩)])) := hk2.cellOf hg (by simp)
  have has := asE_ok k v c t ⟨w.heap.size, 0, none⟩ old _ (h.kept hk2 (by simp)) (by simp) (hk2.cellOf ht0 (by simp)) (by rw [hk2.frozen (World.block_lt_of_cell? _ _ ht0) (by simp)]; exact hf0)
  have HK2 := hide hk2
  have hsh := h.shape
  clear h hg ht0 hf0 hk2
  rcases hsh with ⟨n, rfl⟩ | ⟨e2, rfl⟩
  · go_enter Tryz.func26, Tryz.ntmps26
    go_wp2_with (go_at_call 40; refine has.mono ?_; rintro e w' ⟨rfl, hc, hk⟩; have H9 := hide (And.intro hc ((HK2.out.mono (by simp)).trans hk (fun i hi _ => hi))); clear has hc hk)
    go_ret
    exact ⟨rfl, H9.out⟩
  · go_enter Tryz.func26, Tryz.ntmps26
    go_wp2_with (go_at_call 40; refine has.mono ?_; rintro e w' ⟨rfl, hc, hk⟩; have H9 := hide (And.intro hc ((HK2.out.mono (by simp)).trans hk (fun i hi _ => hi))); clear has hc hk)
    go_ret
    exact ⟨rfl, H9.out⟩

/-- api.Code of such an error is its number. -/
theorem codeErrno_ok (k : Nat) (v : Value) (c : Int) (w : World) (hg : GlE w) (h : Chn w k v (errnoV c)) :
    Calls Tryz.prog 12 #[v] w fun e w' => e = .returned (.int .i64 c) ∧ Kept [] w w' := by
  have hk1 : Kept [] w (w.alloc (.cells #[.int .i64 0] 38)) := (Kept.refl [] w).alloc _
  have hb1 : (w.alloc (.cells #[.int .i64 0] 38)).heap[w.heap.size]? = some (.cells #[.int .i64 0] 38 (0, 0)) := new_atK _ _
  have has := asErrno_ok k v c ⟨w.heap.size, 0, none⟩ (.int .i64 0) (w.alloc (.cells #[.int .i64 0] 38)) (hk1.cellOf hg (by simp)) (h.kept hk1 (by simp)) (by rw [cell_of_row _ _ _ _ _ _ hb1]; rfl) (frozen_of_row _ _ _ _ _ hb1)
  have HK1 := hide hk1
  have hsh := h.shape
  clear hb1 hk1 hg h
  rcases hsh with ⟨n, rfl⟩ | ⟨e2, rfl⟩
  · go_enter Tryz.func12, Tryz.ntmps12
    go_wp2_with (go_at_call 26; refine has.mono ?_; rintro e w' ⟨rfl, hc, hk⟩; have HK := hide (HK1.out.trans hk (fun i hi hlt => by simp at hi; omega)); clear has hk)
    go_ret
    exact ⟨rfl, HK.out⟩
  · go_enter Tryz.func12, Tryz.ntmps12
    go_wp2_with (go_at_call 26; refine has.mono ?_; rintro e w' ⟨rfl, hc, hk⟩; have HK := hide (HK1.out.trans hk (fun i hi hlt => by simp at hi; omega)); clear has hk)
    go_ret
    exact ⟨rfl, HK.out⟩

/-- tellsOfALack of such an error. -/
theorem tellsErrno_ok (k : Nat) (v : Value) (c : Int) (w : World) (hg : GlE w) (h : Chn w k v (errnoV c)) :
    Calls Tryz.prog 54 #[v] w fun e w' => e = .returned (.bool (c == 93 || c == 94)) ∧ Kept [] w w' := by
  have hk1 : Kept [] w (w.alloc (.cells #[.int .i64 0] 38)) := (Kept.refl [] w).alloc _
  have hb1 : (w.alloc (.cells #[.int .i64 0] 38)).heap[w.heap.size]? = some (.cells #[.int .i64 0] 38 (0, 0)) := new_atK _ _
  have has := asErrno_ok k v c ⟨w.heap.size, 0, none⟩ (.int .i64 0) (w.alloc (.cells #[.int .i64 0] 38)) (hk1.cellOf hg (by simp)) (h.kept hk1 (by simp)) (by rw [cell_of_row _ _ _ _ _ _ hb1]; rfl) (frozen_of_row _ _ _ _ _ hb1)
  have HK1 := hide hk1
  clear hb1 hk1 hg h
  by_cases h93 : (c == 93) = true
  · rw [h93, Bool.true_or]
    go_enter Tryz.func54, Tryz.ntmps54
    go_wp2_with (go_at_call 26; refine has.mono ?_; rintro e w' ⟨rfl, hc, hk⟩; have HK := hide (HK1.out.trans hk (fun i hi hlt => by simp at hi; omega)); clear has hk)
    go_ret
    exact ⟨rfl, HK.out⟩
  · have h93' : (c == 93) = false := by simpa using h93
    rw [h93', Bool.false_or]
    clear h93
    go_enter Tryz.func54, Tryz.ntmps54
    go_wp2_with (go_at_call 26; refine has.mono ?_; rintro e w' ⟨rfl, hc, hk⟩; have HK := hide (HK1.out.trans hk (fun i hi hlt => by simp at hi; omega)); clear has hk)
    go_ret
    exact ⟨rfl, HK.out⟩
end

section
open Go.RowKit Go.Lib Go.Sort
set_option linter.unusedVariables false
set_option linter.unusedSimpArgs false

/-- A Fault's cells. -/
def fltC (op : List UInt8) (i : List UInt8) (u : Value) : List Value := .string ⟨op.toArray⟩ :: .string ⟨#[]⟩ :: (bys i ++ [u])
def FltAt (w : World) (eb : Nat) (op i : List UInt8) (u : Value) : Prop := w.heap[eb]? = some (.cells (fltC op i u).toArray 89 (0, 0))
theorem FltAt.kept {w w' : World} {eb : Nat} {op i : List UInt8} {u : Value} (h : FltAt w eb op i u) (hk : Kept [] w w') : FltAt w' eb op i u := by
  unfold FltAt at *
  rw [hk.block eb (Array.getElem?_eq_some_iff.1 h).1 (by simp)]
  exact h
theorem FltAt.err {w : World} {eb : Nat} {op i : List UInt8} {u : Value} (h : FltAt w eb op i u) (hi : i.length = 32) : w.cell? ⟨eb, 34, none⟩ = some u := by
  rw [cell_of_row _ _ _ _ _ _ h]
  simp [fltC, bys_length, hi]

theorem wpList_buildRun9 {ops : Array Oper} {rest : List Oper} {o : Oper} {a : Act} {w : World} {Q : Exit → Act → World → Prop} (hgd : o.guard = none) (t : TypeId) (parts : Array (Nat × Operand)) (ho : o.op = .build t parts) (vals : Array (Nat × Value)) (hv : (parts.map fun (i, x) => (i, a.eval x)) = vals) (v : Value) (hrun : (Instr.build t vals).run Tryz.prog w = .ok v w)
    (h : wpList Tryz.prog ops Q rest (a.put o.dst v) w) : wpList Tryz.prog ops Q (o :: rest) a w :=
  wpList_plain hgd fun _ hK => by
    unfold Oper.wp execOp
    simp only [ho, hv, Sem.run_bind, hrun, Result.andThen_ok]
    exact hK _ _ h

theorem Tryz.builtFlt (op : ByteArray) (f : Nat → UInt8) (T : TypeId) (u : Value) (w : World) : (Instr.build 89 #[(0, .string op), (2, .agg (bys ((List.range 32).map f)).toArray), (3, .iface T u)]).run Tryz.prog w = .ok (.agg (.string op :: .string ⟨#[]⟩ :: (bys ((List.range 32).map f) ++ [.iface T u])).toArray) w := by kernel_rfl

set_option maxHeartbeats 1600000 in
set_option maxRecDepth 100000 in
theorem rfault_ok (op : List UInt8) (i : List UInt8) (hi : i.length = 32) (T : TypeId) (u : Value) (w : World) :
    Calls Tryz.prog 23 #[.string ⟨op.toArray⟩, .agg (bys i).toArray, .iface T u] w fun e w' => ∃ eb, e = .returned (faultV eb) ∧ FltAt w' eb op i (.iface T u) ∧ Kept [] w w' ∧ w.heap.size ≤ eb := by
  obtain ⟨w1, hw1⟩ : ∃ w1, w1 = w.alloc (.cells (bys i).toArray 36) := ⟨_, rfl⟩
  have hk1 : Kept [] w w1 := by rw [hw1]; exact (Kept.refl [] w).alloc _
  have hrx : w1.rangeAt w.heap.size 0 (bys i) := by rw [hw1]; exact row_rangeK (new_atK _ _)
  have hil := idl i hi
  have hbl := Tryz.builtFlt ⟨op.toArray⟩ (fun k => i.getD k 0) T u w1
  rw [range32i hi] at hbl
  have HK1 := hide hk1
  go_enter Tryz.func23, Tryz.ntmps23
  go_upto_region 1 with (fail)
  rw [← hw1]
  clear hw1 hk1
  generalize w.heap.size = bx at hrx ⊢
  have HN := hide (And.intro (new_atK w1 (.cells (fltC op i (.iface T u)).toArray 89)) HK1.out.size)
  go_wp2_with (first
    | refine wpList_load_mid rfl 36 (.tmp 4) rfl bx 0 rfl (bys i) _ hrx Tryz.underlying36 rfl hil ?_
    | refine wpList_buildRun9 rfl 89 #[(0, .tmp 7), (2, .tmp 8), (3, .tmp 9)] rfl #[(0, .string ⟨op.toArray⟩), (2, .agg (bys i).toArray), (3, .iface T u)] (by simp [Act.eval]) _ hbl ?_)
  go_ret
  exact ⟨_, rfl, HN.out.1, HK1.out.alloc _, HN.out.2⟩

/-- What a source says of an id. -/
inductive An where
  | data (xs : List UInt8)
  | lack
  | fail
/-- Nothing but blocks of o has turned. -/
structure Kp (o : Nat → Prop) (w w' : World) : Prop where
  os : w'.os = w.os
  tape : w'.tape = w.tape
  output : w'.output = w.output
  size : w.heap.size ≤ w'.heap.size
  block : ∀ b, b < w.heap.size → ¬ o b → w'.heap[b]? = w.heap[b]?
theorem Kp.ofKept {o : Nat → Prop} {l : List Nat} {w w' : World} (h : Kept l w w') (hl : ∀ b ∈ l, b < w.heap.size → o b) : Kp o w w' := ⟨h.os, h.tape, h.output, h.size, fun b hb hn => h.block b hb (fun hm => hn (hl b hm hb))⟩
theorem Kp.trans {o p : Nat → Prop} {a b c : World} (h : Kp o a b) (k : Kp p b c) (hp : ∀ i, p i → i < a.heap.size → o i) : Kp o a c :=
  ⟨k.os.trans h.os, k.tape.trans h.tape, k.output.trans h.output, Nat.le_trans h.size k.size, fun i hi hn => (k.block i (Nat.lt_of_lt_of_le hi h.size) (fun hm => hn (hp i hm hi))).trans (h.block i hi hn)⟩
theorem Kp.cell {o : Nat → Prop} {w w' : World} (h : Kp o w w') {p : Addr} {v : Value} (hc : w.cell? p = some v) (hn : ¬ o p.block) : w'.cell? p = some v := by
  rw [World.cell?_of_block (w := w) (h.block p.block (World.block_lt_of_cell? _ _ hc) hn)]; exact hc

/-- What Get answers, seen in the world behind it. -/
def Ans (Er : World → Value → Prop) (w : World) (v ev : Value) : An → Prop
  | .data xs => ev = .nilIface ∧ ∃ ao n c, v = .slice ao n c ∧ xs.length = n ∧ n ≤ 140737488355328 ∧ Sl w ao xs ∧ (ao = none → xs = [] ∧ c = 0)
  | .lack => (∃ T u, ev = .iface T u) ∧ Calls Tryz.prog 54 #[ev] w fun e w' => e = .returned (.bool true) ∧ Kept [] w w'
  | .fail => (∃ T u, ev = .iface T u) ∧ Er w ev ∧ Calls Tryz.prog 54 #[ev] w fun e w' => e = .returned (.bool false) ∧ Kept [] w w'

/-- A source: of type T, with the value sv; f: what it says; Er: how its error is, where it cannot look; G: it stands so, asked for these ids in this order, in blocks o of its own. -/
structure Src (T : TypeId) (sv : Value) (fn : Nat) (rv : Value) (f : List UInt8 → An) (Er : List UInt8 → World → Value → Prop) (G : List (List UInt8) → (Nat → Prop) → World → Prop) : Prop where
  meth : ∀ w, (Go.method 323 T sv "Get").run Tryz.prog w = .ok (fn, rv) w
  nila : ∀ w, (nilAhead 323 T sv "Get").run Tryz.prog w = .ok (some false) w
  enter : ∀ args w, (callFunc fn args).run Tryz.prog w = .ok (.enter fn args) w
  lim : ∀ {asked : List (List UInt8)} {o : Nat → Prop} {w : World}, G asked o w → ∀ b, o b → b < w.heap.size
  keep : ∀ {asked : List (List UInt8)} {o : Nat → Prop} {w w' : World}, G asked o w → Kp (fun b => ¬ o b ∧ 4 ≤ b) w w' → G asked o w'
  erk : ∀ {i : List UInt8} {w w' : World} {ev : Value}, Er i w ev → Kept [] w w' → Er i w' ev
  get : ∀ (asked : List (List UInt8)) (o : Nat → Prop) (w : World) (i : List UInt8), i.length = 32 → asked.length ≤ 4398046511104 → GlE w → G asked o w → Calls Tryz.prog fn #[rv, .agg (bys i).toArray] w fun e w' => ∃ v ev o', e = .returned (.tuple #[v, ev]) ∧ G (asked ++ [i]) o' w' ∧ (∀ b, o' b → o b ∨ w.heap.size ≤ b) ∧ Kp o w w' ∧ Ans (Er i) w' v ev (f i)

/-- The walk beside its source, since w0; o0: the source's blocks then. -/
structure Wx (w0 : World) (o0 : Nat → Prop) (wb : World) (ub : Nat → Prop) (T : TypeId) (sv : Value) (G : List (List UInt8) → (Nat → Prop) → World → Prop) (w : World) (P : Nat) (x : Wfd) (ord A N L B : List (List UInt8)) (F : List (List UInt8 × List (List UInt8))) (V : List Value) (o : Nat → Prop) : Prop where
  wk : Wk w0 w P x A N L B F V
  src : G ord o w
  isrc : x.src = .iface T sv
  offP : ¬ o P
  offm : ∀ g ∈ x.maps, ¬ o g
  offr : ∀ j, j < F.length → ∀ g, (V.getD j unitv).ownBlock = some g → ¬ o g
  offg : ∀ b, b < 4 → ¬ o b
  o0r : ∀ b, o b → o0 b ∨ w0.heap.size ≤ b
  kp : Kp o0 w0 w
  kb : Kp ub wb w
  ubr : ∀ b, (o b ∨ b ∈ x.maps ∨ ∃ j, j < F.length ∧ (V.getD j unitv).ownBlock = some b) → ub b ∨ wb.heap.size ≤ b
  gl : GlE w
  tabs : Tabs w
  top : 4 ≤ w0.heap.size
end

end Go.Proofs.YtngaimahhgmciabGreatDoor
