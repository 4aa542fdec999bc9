/-
  Chapter 11's arguments: lists of blocks, of Ask, of One; turn.
-/
import Derived.Test.YtdnbpklnkmgmkaaEa
import Derived.Test.YtdnbpklnkmgmkaaBe
import Derived.Test.YtdnbpklnkmgmkaaBu
import Derived.ProofKit
import Derived.OpenShut
import Derived.Deep.Slices
import Derived.Lib.SmallJoins
import Derived.Deep.MidRow
namespace Go.Proofs.Ytdnbpklnkmgmkaa
open Go.ChangeShapes Go.WideShapes Go.ChangeAt Go.RowKit Go.Deep Go.Joins
set_option linter.unusedVariables false
set_option linter.unusedSimpArgs false

theorem weights_all11 {H : Type} {P : Program} {e : TypeId} {l : List (DataW H)} {d : DataW H} (h : d ∈ l) {n : Nat} (hn : n ∈ d.weights P e) : n ∈ DataW.weightsAll P e l := by
  induction l with
  | nil => simp at h
  | cons x l ih =>
    simp only [DataW.weightsAll, List.mem_append]
    simp only [List.mem_cons] at h
    rcases h with rfl | h
    · exact .inl hn
    · exact .inr (ih h)

/-- A list of structs that came in. -/
theorem open_structs {H : Type} {enc : TypeId × Value → H} {w : World} {α : Type} [Inhabited α] (t e : TypeId) (sz : Nat) (ht : Try.prog.underlying t = some (.slice e)) (hcl : Try.prog.cellsOf e = sz) (h0 : 0 < sz) (cells : α → List Value) (hlen : ∀ a, (cells a).length = sz) (OK : α → Prop)
    (op : ∀ (n : Nat) (cs : List Value) (x : DataW H × List MemPlace), DataW.trod enc Try.prog w 0 (fun _ => true) true n e cs = some x → (∀ n ∈ x.1.weights Try.prog e, n ≤ reachBytes) → ∃ s, cs = cells s ∧ OK s)
    {fuel : Nat} {v : Value} {x : DataW H × List MemPlace} (h : DataW.trod enc Try.prog w 0 (fun _ => true) true fuel t [v] = some x) (hw : ∀ n ∈ x.1.weights Try.prog t, n ≤ reachBytes) :
    ∃ (ao : Option Addr) (n cap : Nat) (L : List α), v = .slice ao n cap ∧ L.length = n ∧ (∀ i, i < L.length → ∃ b off, ao = some ⟨b, off, none⟩ ∧ (∀ j v, (cells (L.getD i default))[j]? = some v → w.cell? ⟨b, off + i * sz + j, none⟩ = some v) ∧ OK (L.getD i default)) ∧ n ≤ cap ∧ cap ≤ 9223372036854775807 := by
  rcases open_slice ht h with ⟨hcs, _⟩ | ⟨a, len, cap, m, n, D, Pl, hcs, _, hl, hm, hmm, hxx, hx⟩
  · cases hcs
    exact ⟨none, 0, 0, [], rfl, rfl, fun i hi => by simp at hi, by omega, by omega⟩
  · cases hcs
    simp only [if_true] at hmm
    subst hmm
    rw [hcl] at hx
    unfold maxLen at hm
    obtain ⟨b, off, spot⟩ := a
    have hwD : ∀ i, i < len → ∀ n ∈ (D i).weights Try.prog e, n ≤ reachBytes := by
      intro i hi n hn
      refine hw n ?_
      rw [hxx]
      simp only [DataW.weights, ht, List.mem_cons, List.mem_append]
      exact .inr (.inl (weights_all11 (List.mem_map_of_mem (List.mem_range.2 hi)) hn))
    have hel : ∀ i, i < len → ∃ c : α, spot = none ∧ (∀ j v, (cells c)[j]? = some v → w.cell? ⟨b, off + i * sz + j, none⟩ = some v) ∧ OK c := by
      intro i hi
      obtain ⟨cs', h1, h2⟩ := hx i (by omega)
      obtain ⟨s, rfl, hin⟩ := op _ _ _ h2 (hwD i hi)
      obtain ⟨_, _, h3⟩ := World.cells?_some h1
      have hsp : spot = none := by
        obtain ⟨cs0, g1, g2⟩ := hx 0 (by omega)
        obtain ⟨s0, rfl, _⟩ := op _ _ _ g2 (hwD 0 (by omega))
        obtain ⟨_, _, g3⟩ := World.cells?_some g1
        have h5 := g3 0 h0
        rw [show (((⟨b, off, spot⟩ : Addr).add (0 * sz)).add 0) = ⟨b, off, spot⟩ by simp [Addr.add]] at h5
        obtain ⟨u, hu⟩ : ∃ u, (cells s0)[0]? = some u := ⟨_, List.getElem?_eq_getElem (by rw [hlen]; exact h0)⟩
        rw [hu] at h5
        exact World.cell?_spot (a := ⟨b, off, spot⟩) h5
      subst hsp
      refine ⟨s, rfl, fun j v hv => ?_, hin⟩
      have hj : j < sz := by have := (List.getElem?_eq_some_iff.1 hv).1; rw [hlen] at this; exact this
      have g := h3 j hj
      rw [Addr.add_mid, Addr.add_mid] at g
      rw [g]
      exact hv
    obtain ⟨f, hf⟩ := choose_lt (α := α) hel
    refine ⟨_, len, _, (List.range len).map f, rfl, by simp, fun i hi => ?_, by omega, by omega⟩
    have hi' : i < len := by simpa using hi
    obtain ⟨hsp, hc, hin⟩ := hf i hi'
    subst hsp
    have e : ((List.range len).map f).getD i default = f i := by simp [hi']
    rw [e]
    exact ⟨b, off, rfl, hc, hin⟩

structure BkIn (b : Bk) : Prop where
  a : (Lit.int .i64 b.at_).wf = true
  p : (Lit.int .i64 b.pk).wf = true
  r : (Lit.int .i64 b.raw).wf = true
  s : (Lit.int .i64 b.sum).wf = true
instance : Inhabited Bk := ⟨bk0⟩

set_option maxRecDepth 100000 in
theorem open_block {H : Type} {enc : TypeId × Value → H} {w : World} {n : Nat} {cs : List Value} {x : DataW H × List MemPlace} (h : DataW.trod enc Try.prog w 0 (fun _ => true) true n 45 cs = some x) : ∃ s : Bk, cs = s.cells ∧ BkIn s := by
  obtain ⟨xs, m, rfl, hx, hl, hlen, hf⟩ := DataW.trod_struct Try.underlying45 h
  have hcl : Try.prog.cellsOf 45 = 4 := by kernel_rfl
  have hci : Try.prog.cellsOf 3 = 1 := by kernel_rfl
  rw [hcl] at hl
  match cs, hl with
  | [a0, a1, a2, a3], _ =>
  match xs, hlen with
  | [y0, y1, y2, y3], _ =>
    have h0 := hf 0 _ rfl
    have h1 := hf 1 _ rfl
    have h2 := hf 2 _ rfl
    have h3 := hf 3 _ rfl
    simp only [hci, List.drop_zero, List.drop_succ_cons, List.take_succ_cons, List.take_zero, List.getElem?_cons_zero, List.getElem?_cons_succ] at h0 h1 h2 h3
    obtain ⟨b0, e0, _, w0⟩ := DataW.trod_int Try.underlying3 h0
    obtain ⟨b1, e1, _, w1⟩ := DataW.trod_int Try.underlying3 h1
    obtain ⟨b2, e2, _, w2⟩ := DataW.trod_int Try.underlying3 h2
    obtain ⟨b3, e3, _, w3⟩ := DataW.trod_int Try.underlying3 h3
    cases e0; cases e1; cases e2; cases e3
    exact ⟨⟨b0, b1, b2, b3⟩, rfl, ⟨w0, w1, w2, w3⟩⟩

/-- A list of blocks that came in. -/
theorem open_blocks {H : Type} {enc : TypeId × Value → H} {w : World} {fuel : Nat} {v : Value} {x : DataW H × List MemPlace} (h : DataW.trod enc Try.prog w 0 (fun _ => true) true fuel 30 [v] = some x) (hw : ∀ n ∈ x.1.weights Try.prog 30, n ≤ reachBytes) :
    ∃ ao n cap L, v = .slice ao n cap ∧ L.length = n ∧ Blks w ao L ∧ (∀ b ∈ L, BkIn b) ∧ n ≤ cap ∧ cap ≤ 9223372036854775807 := by
  obtain ⟨ao, n, cap, L, hv, hn, hb, hc, hm⟩ := open_structs (α := Bk) 30 45 4 Try.underlying30 (by kernel_rfl) (by omega) Bk.cells (fun a => rfl) BkIn (fun n cs x h _ => open_block h) h hw
  refine ⟨ao, n, cap, L, hv, hn, fun i hi => ?_, fun b hbm => ?_, hc, hm⟩
  · obtain ⟨b, off, e, h1, _⟩ := hb i hi
    exact ⟨b, off, e, h1⟩
  · obtain ⟨i, hi, rfl⟩ := List.getElem_of_mem hbm
    obtain ⟨_, _, _, _, h2⟩ := hb i hi
    simpa [hi] using h2

/-- An Ask as it lies in memory. -/
structure Qm where
  da : Option Addr
  dn : Nat
  dc : Nat
  ds : List UInt8
  size : Int
def qm0 : Qm := ⟨none, 0, 0, [], 0⟩
instance : Inhabited Qm := ⟨qm0⟩
def Qm.cells (s : Qm) : List Value := [.slice s.da s.dn s.dc, .int .i64 s.size]
structure QmIn (w : World) (s : Qm) : Prop where
  inb : InB w s.da s.dn s.dc s.ds
  wa : (Lit.int .i64 s.size).wf = true

set_option maxRecDepth 100000 in
theorem open_ask {H : Type} {enc : TypeId × Value → H} {w : World} {n : Nat} {cs : List Value} {x : DataW H × List MemPlace} (h : DataW.trod enc Try.prog w 0 (fun _ => true) true n 25 cs = some x) (hw : ∀ n ∈ x.1.weights Try.prog 25, n ≤ reachBytes) : ∃ s : Qm, cs = s.cells ∧ QmIn w s := by
  obtain ⟨xs, m, rfl, hx, hl, hlen, hf⟩ := DataW.trod_struct Try.underlying25 h
  have hcl : Try.prog.cellsOf 25 = 2 := by kernel_rfl
  have hci : Try.prog.cellsOf 3 = 1 := by kernel_rfl
  have hcd : Try.prog.cellsOf 23 = 1 := by kernel_rfl
  rw [hcl] at hl
  match cs, hl with
  | [a0, a1], _ =>
  match xs, hlen with
  | [y0, y1], _ =>
    have h0 := hf 0 _ rfl
    have h1 := hf 1 _ rfl
    simp only [hci, hcd, List.drop_zero, List.drop_succ_cons, List.take_succ_cons, List.take_zero, List.getElem?_cons_zero, List.getElem?_cons_succ] at h0 h1
    obtain ⟨at_, e1, _, w1⟩ := DataW.trod_int Try.underlying3 h1
    obtain ⟨ao, mm, cap, xs5, e2, hin⟩ := open_bytes h0 (fun j hj => hw j (by
      rw [hx]
      simp only [DataW.weights, Try.underlying25, DataW.weightsEach, List.mem_append, List.map_cons, List.map_nil]
      simp [DataW.weightsEach, hj]))
    cases e1; cases e2
    exact ⟨⟨ao, mm, cap, xs5, at_⟩, rfl, ⟨hin, w1⟩⟩

/-- A One as it lies in memory. -/
structure Om where
  da : Option Addr
  dn : Nat
  dc : Nat
  ds : List UInt8
  bk : Bk
def om0 : Om := ⟨none, 0, 0, [], bk0⟩
instance : Inhabited Om := ⟨om0⟩
def Om.cells (s : Om) : List Value := [.slice s.da s.dn s.dc, .int .i64 s.bk.at_, .int .i64 s.bk.pk, .int .i64 s.bk.raw, .int .i64 s.bk.sum]
structure OmIn (w : World) (s : Om) : Prop where
  inb : InB w s.da s.dn s.dc s.ds
  bk : BkIn s.bk

set_option maxRecDepth 100000 in
theorem open_one {H : Type} {enc : TypeId × Value → H} {w : World} {n : Nat} {cs : List Value} {x : DataW H × List MemPlace} (h : DataW.trod enc Try.prog w 0 (fun _ => true) true n 47 cs = some x) (hw : ∀ n ∈ x.1.weights Try.prog 47, n ≤ reachBytes) : ∃ s : Om, cs = s.cells ∧ OmIn w s := by
  obtain ⟨xs, m, rfl, hx, hl, hlen, hf⟩ := DataW.trod_struct Try.underlying47 h
  have hcl : Try.prog.cellsOf 47 = 5 := by kernel_rfl
  have hcb : Try.prog.cellsOf 45 = 4 := by kernel_rfl
  have hcd : Try.prog.cellsOf 23 = 1 := by kernel_rfl
  rw [hcl] at hl
  match cs, hl with
  | [a0, a1, a2, a3, a4], _ =>
  match xs, hlen with
  | [y0, y1], _ =>
    have h0 := hf 0 _ rfl
    have h1 := hf 1 _ rfl
    simp only [hcb, hcd, List.drop_zero, List.drop_succ_cons, List.take_succ_cons, List.take_zero, List.getElem?_cons_zero, List.getElem?_cons_succ] at h0 h1
    obtain ⟨b, e1, w1⟩ := open_block h1
    obtain ⟨ao, mm, cap, xs5, e2, hin⟩ := open_bytes h0 (fun j hj => hw j (by
      rw [hx]
      simp only [DataW.weights, Try.underlying47, DataW.weightsEach, List.mem_append, List.map_cons, List.map_nil]
      simp [DataW.weightsEach, hj]))
    obtain ⟨b0, b1, b2, b3⟩ := b
    simp only [Bk.cells, List.cons.injEq, and_true] at e1
    obtain ⟨rfl, rfl, rfl, rfl⟩ := e1
    cases e2
    exact ⟨⟨ao, mm, cap, xs5, ⟨b0, b1, b2, b3⟩⟩, rfl, ⟨hin, w1⟩⟩

def Qms (w : World) (ao : Option Addr) (L : List Qm) : Prop :=
  ∀ i, i < L.length → ∃ b off, ao = some ⟨b, off, none⟩ ∧ (∀ j v, (L.getD i qm0).cells[j]? = some v → w.cell? ⟨b, off + i * 2 + j, none⟩ = some v) ∧ QmIn w (L.getD i qm0)
def Oms (w : World) (ao : Option Addr) (L : List Om) : Prop :=
  ∀ i, i < L.length → ∃ b off, ao = some ⟨b, off, none⟩ ∧ (∀ j v, (L.getD i om0).cells[j]? = some v → w.cell? ⟨b, off + i * 5 + j, none⟩ = some v) ∧ OmIn w (L.getD i om0)

theorem open_asks {H : Type} {enc : TypeId × Value → H} {w : World} {fuel : Nat} {v : Value} {x : DataW H × List MemPlace} (h : DataW.trod enc Try.prog w 0 (fun _ => true) true fuel 22 [v] = some x) (hw : ∀ n ∈ x.1.weights Try.prog 22, n ≤ reachBytes) :
    ∃ ao n cap L, v = .slice ao n cap ∧ L.length = n ∧ Qms w ao L ∧ n ≤ 9223372036854775807 := by
  obtain ⟨ao, n, cap, L, hv, hn, hb, hc, hm⟩ := open_structs (α := Qm) 22 25 2 Try.underlying22 (by kernel_rfl) (by omega) Qm.cells (fun a => rfl) (QmIn w) (fun n cs x h hw => open_ask h hw) h hw
  exact ⟨ao, n, cap, L, hv, hn, hb, by omega⟩

theorem open_ones {H : Type} {enc : TypeId × Value → H} {w : World} {fuel : Nat} {v : Value} {x : DataW H × List MemPlace} (h : DataW.trod enc Try.prog w 0 (fun _ => true) true fuel 43 [v] = some x) (hw : ∀ n ∈ x.1.weights Try.prog 43, n ≤ reachBytes) :
    ∃ ao n cap L, v = .slice ao n cap ∧ L.length = n ∧ Oms w ao L ∧ n ≤ 9223372036854775807 := by
  obtain ⟨ao, n, cap, L, hv, hn, hb, hc, hm⟩ := open_structs (α := Om) 43 47 5 Try.underlying43 (by kernel_rfl) (by omega) Om.cells (fun a => rfl) (OmIn w) (fun n cs x h hw => open_one h hw) h hw
  exact ⟨ao, n, cap, L, hv, hn, hb, by omega⟩

theorem turn_ok (k n : Nat) (w : World) (hn : n ≤ 200000) (hk : k < 2 * n) :
    Calls Try.prog 8 #[.int .i64 k, .int .i64 n] w fun e w' => (∃ t : Nat, t < n ∧ e = .returned (.int .i64 t)) ∧ w' = w := by
  by_cases h : k < n
  · go_enter Try.func8, Try.ntmps8
    go_wp2
    go_ret
    exact ⟨⟨k, h, rfl⟩, rfl⟩
  · go_enter Try.func8, Try.ntmps8
    go_wp2
    go_ret
    exact ⟨⟨2 * n - 1 - k, by omega, ret_int (by omega)⟩, rfl⟩

end Go.Proofs.Ytdnbpklnkmgmkaa
