import Derived.Test.YtemlbmamcbmnjaaGreatDoorHkp
import Derived.Test.YtemlbmamcbmnjaaGreatDoorHnp
import Derived.Test.YtemlbmamcbmnjaaGreatDoorHop
import Derived.Lib.SlBytesConst
import Derived.Test.YtemlbmamcbmnjaaGreatDoorProg
import Derived.Test.YtemlbmamcbmnjaaGreatDoorMem
import Derived.ProofKit
import Derived.OpenShut
import Derived.Deep.Slices
import Derived.Lib.SmallJoins
import Derived.Deep.MidRow
import Derived.Test.YtemlbmamcbmnjaaGreatDoorGnp
namespace Go.Proofs.YtemlbmamcbmnjaaGreatDoor
section
open Go.RowKit Dsk
set_option linter.unusedVariables false
set_option linter.unusedSimpArgs false

/-- At p lies the disk S, all of it made since w0; of what was there nothing has turned. N: how much there is of it. -/
def At (w0 w : World) (p : Nat) (S : Ds) (N : Nat) : Prop := ∃ A o, PD w p S A o ∧ (∀ b, o b ≠ 0 → w0.heap.size ≤ b) ∧ Kept [] w0 w ∧ S.Bd N

theorem At.wf {w0 w : World} {p : Nat} {S : Ds} {N : Nat} (h : At w0 w p S N) : S.Wf := by
  obtain ⟨A, o, ⟨_, _, _, _, h⟩, _⟩ := h
  exact h.wf

theorem At.bd {w0 w : World} {p : Nat} {S : Ds} {N : Nat} (h : At w0 w p S N) : S.Bd N := h.choose_spec.choose_spec.2.2.2

theorem At.old {w0 w : World} {p : Nat} {S : Ds} {N : Nat} (h : At w0 w p S N) : Kept [] w0 w := h.choose_spec.choose_spec.2.2.1

theorem At.kept {w0 w w' : World} {p : Nat} {S : Ds} {N : Nat} (h : At w0 w p S N) (hk : Kept [] w w') : At w0 w' p S N := by
  obtain ⟨A, o, hP, ho, hw, hb⟩ := h
  exact ⟨A, o, hP.keep (Keep.ofNone (F := fun _ => False) hk) (fun _ _ h => h), ho, hw.trans hk (by simp), hb⟩

theorem At.mono {w0 w : World} {p : Nat} {S : Ds} {N M : Nat} (h : At w0 w p S N) (hm : N ≤ M) : At w0 w p S M := by
  obtain ⟨A, o, hP, ho, hw, hb⟩ := h
  exact ⟨A, o, hP, ho, hw, hb.mono hm⟩

theorem aft_at {w0 w w' : World} {p : Nat} {S S' : Ds} {M : Nat} {o : Lab} (ho : ∀ b, o b ≠ 0 → w0.heap.size ≤ b) (hw : Kept [] w0 w) (ha : Aft w w' p S' o) (hb : S'.Bd M) : At w0 w' p S' M := by
  obtain ⟨A', o', hP, he, hK⟩ := ha
  refine ⟨A', o', hP, fun b hb => ?_, ?_, hb⟩
  · by_cases hlt : b < w.heap.size
    · exact ho b (he b hlt hb)
    · have := hw.size; omega
  · exact ⟨hK.os.trans hw.os, hK.tape.trans hw.tape, hK.output.trans hw.output, Nat.le_trans hw.size hK.size, fun i hi _ => (hK.block i (Nat.lt_of_lt_of_le hi hw.size) (fun hm => by have := ho i hm; omega)).trans (hw.block i hi (by simp))⟩

section

variable {w0 w : World} {p : Nat} {S : Ds} {N : Nat}

theorem create_at (h : At w0 w p S N) (hN : N ≤ 268435456) (n : By) (hn : n.length ≤ 4611686018427387904) : Calls Tryz.prog 38 #[.pointer (some ⟨p, 0, none⟩), encStr n] w fun e w' => e = .returned (.int .i64 (S.create n).1) ∧ At w0 w' p (S.create n).2 (N + 1) := by
  obtain ⟨A, o, hP, ho, hw, hb⟩ := h
  refine (create_ok hP hb hN n hn).mono ?_
  rintro e w' ⟨rfl, ha⟩
  exact ⟨rfl, aft_at (S := S) ho hw ha (hb.create n)⟩

/-- Bytes in a block that came behind the disk, or that was there ahead of it. -/
theorem given_of {A : Nat → Nat} {o : Lab} {w1 : World} (hP : PD w p S A o) (ho : ∀ b, o b ≠ 0 → w0.heap.size ≤ b) (hk : Kept [] w w1) {ao : Option Addr} {n : Nat} {d : By} (hl : d.length = n) (hs : Sl w1 ao d) (h0 : ao = none → n = 0) (hnew : d ≠ [] → ∀ a, ao = some a → w.heap.size ≤ a.block ∨ a.block < w0.heap.size) : Given w1 o ao n d := by
  obtain ⟨_, _, _, _, hx⟩ := hP
  refine ⟨hl, hs, h0, fun hd a ha => ?_⟩
  apply Classical.byContradiction
  intro hne
  rcases hnew hd a ha with h1 | h1
  · have := hx.lim a.block hne; omega
  · have := ho a.block hne; omega

theorem append_at (h : At w0 w p S N) {w1 : World} (hk : Kept [] w w1) {ao : Option Addr} {n c : Nat} {d : By} (hN : N + n ≤ 268435456) (nm : By) (hnl : nm.length ≤ 4611686018427387904) (hl : d.length = n) (hs : Sl w1 ao d) (h0 : ao = none → n = 0) (hnew : d ≠ [] → ∀ a, ao = some a → w.heap.size ≤ a.block ∨ a.block < w0.heap.size) :
    Calls Tryz.prog 40 #[.pointer (some ⟨p, 0, none⟩), encStr nm, .slice ao n c] w1 fun e w' => e = .returned (.int .i64 (S.append nm d).1) ∧ At w0 w' p (S.append nm d).2 (N + n + 2) := by
  obtain ⟨A, o, hP, ho, hw, hb⟩ := h
  have hP1 : PD w1 p S A o := hP.keep (Keep.ofNone (F := fun _ => False) hk) (fun _ _ h => h)
  refine (append_ok hP1 hb hN nm hnl (given_of hP ho hk hl hs h0 hnew)).mono ?_
  rintro e w' ⟨rfl, ha⟩
  exact ⟨rfl, aft_at (S := S) ho (hw.trans hk (by simp)) ha (by have := hb.append nm d; rw [hl] at this; exact this)⟩

theorem truncate_at (h : At w0 w p S N) (hN : N ≤ 268435456) (nm : By) (hnl : nm.length ≤ 4611686018427387904) (a : Int) : Calls Tryz.prog 42 #[.pointer (some ⟨p, 0, none⟩), encStr nm, .int .i64 a] w fun e w' => e = .returned (.int .i64 (S.truncate nm a).1) ∧ At w0 w' p (S.truncate nm a).2 (N + 3) := by
  obtain ⟨A, o, hP, ho, hw, hb⟩ := h
  refine (truncate_ok hP hb hN nm hnl a).mono ?_
  rintro e w' ⟨rfl, ha⟩
  exact ⟨rfl, aft_at (S := S) ho hw ha (hb.truncate nm a)⟩

theorem rename_at (h : At w0 w p S N) (hN : N ≤ 268435456) (f t : By) (hfl : f.length ≤ 4611686018427387904) (htl : t.length ≤ 4611686018427387904) : Calls Tryz.prog 44 #[.pointer (some ⟨p, 0, none⟩), encStr f, encStr t] w fun e w' => e = .returned (.int .i64 (S.rename f t).1) ∧ At w0 w' p (S.rename f t).2 (N + 2) := by
  obtain ⟨A, o, hP, ho, hw, hb⟩ := h
  refine (rename_ok hP hb hN f t hfl htl).mono ?_
  rintro e w' ⟨rfl, ha⟩
  exact ⟨rfl, aft_at (S := S) ho hw ha (hb.rename f t)⟩

theorem remove_at (h : At w0 w p S N) (hN : N ≤ 268435456) (nm : By) (hnl : nm.length ≤ 4611686018427387904) : Calls Tryz.prog 46 #[.pointer (some ⟨p, 0, none⟩), encStr nm] w fun e w' => e = .returned (.int .i64 (S.remove nm).1) ∧ At w0 w' p (S.remove nm).2 (N + 2) := by
  obtain ⟨A, o, hP, ho, hw, hb⟩ := h
  refine (remove_ok hP hb hN nm hnl).mono ?_
  rintro e w' ⟨rfl, ha⟩
  exact ⟨rfl, aft_at (S := S) ho hw ha (hb.remove nm)⟩

theorem sync_at (h : At w0 w p S N) (hN : N ≤ 268435456) (nm : By) (hnl : nm.length ≤ 4611686018427387904) : Calls Tryz.prog 48 #[.pointer (some ⟨p, 0, none⟩), encStr nm] w fun e w' => e = .returned (.int .i64 (S.sync nm).1) ∧ At w0 w' p (S.sync nm).2 (N + 1) := by
  have hwf := h.wf
  obtain ⟨A, o, hP, ho, hw, hb⟩ := h
  refine (sync_ok hP hb hN nm hnl).mono ?_
  rintro e w' ⟨rfl, ha⟩
  exact ⟨rfl, aft_at (S := S) ho hw ha (hb.sync hwf nm)⟩

theorem syncNames_at (h : At w0 w p S N) (hN : N ≤ 268435456) : Calls Tryz.prog 50 #[.pointer (some ⟨p, 0, none⟩)] w fun e w' => e = .returned (.int .i64 (S.syncNames).1) ∧ At w0 w' p (S.syncNames).2 (N + 1) := by
  have hwf := h.wf
  obtain ⟨A, o, hP, ho, hw, hb⟩ := h
  refine (syncNames_ok hP hb hN).mono ?_
  rintro e w' ⟨rfl, ha⟩
  exact ⟨rfl, aft_at (S := S) ho hw ha (hb.syncNames hwf)⟩

theorem read_at (h : At w0 w p S N) (hN : N ≤ 268435456) (nm : By) (hnl : nm.length ≤ 4611686018427387904) (a m : Int) : Calls Tryz.prog 75 #[.pointer (some ⟨p, 0, none⟩), encStr nm, .int .i64 a, .int .i64 m] w fun e w' => ∃ v, e = .returned (.tuple #[v, .int .i64 (S.readOk nm a m)]) ∧ At w0 w' p (S.read nm a m) (N + 1) ∧ OwnB w' v (S.readBytes nm a m).length (S.readBytes nm a m) := by
  obtain ⟨A, o, hP, ho, hw, hb⟩ := h
  refine (read_ok hP hb hN nm hnl a m).mono ?_
  rintro e w' ⟨v, rfl, A', o', h1, h2, h3, h4, h5⟩
  exact ⟨v, rfl, aft_at (S := S) ho hw ⟨A', o', h1, h2, h3⟩ (hb.read nm a m), h4⟩

theorem size_at (h : At w0 w p S N) (nm : By) (hnl : nm.length ≤ 4611686018427387904) : Calls Tryz.prog 74 #[.pointer (some ⟨p, 0, none⟩), encStr nm] w fun e w' => e = .returned (.tuple #[.int .i64 (S.size nm), .int .i64 (S.find nm).1]) ∧ w' = w := by
  obtain ⟨A, o, hP, _⟩ := h
  exact size_ok hP nm hnl

theorem plan_at (h : At w0 w p S N) (a b c : Int) (hp : (Lit.int .i64 a).wf = true ∧ (Lit.int .i64 b).wf = true ∧ (Lit.int .i64 c).wf = true) : Calls Tryz.prog 15 #[.pointer (some ⟨p, 0, none⟩), .agg #[.int .i64 a, .int .i64 b, .int .i64 c]] w fun e w' => e = .returned (.tuple #[]) ∧ At w0 w' p (S.setPlan a b c) N := by
  obtain ⟨A, o, hP, ho, hw, hb⟩ := h
  refine (plan_ok hP a b c hp).mono ?_
  rintro e w' ⟨rfl, ha⟩
  exact ⟨rfl, aft_at (S := S) ho hw ha (hb.setPlan a b c)⟩

theorem crash_at (h : At w0 w p S N) {w1 : World} (hk : Kept [] w w1) (hN : N ≤ 268435456) {ao : Option Addr} {n c : Nat} {ps : List Int} (hl : ps.length = n) (hr : Ints w1 ao ps) (hwf : ∀ i, (Lit.int .i64 (ps.getD i 0)).wf = true) (hn : n ≤ 17592186044416) (hnew : ps ≠ [] → ∀ a, ao = some a → w.heap.size ≤ a.block ∨ a.block < w0.heap.size) :
    Calls Tryz.prog 19 #[.pointer (some ⟨p, 0, none⟩), .slice ao n c] w1 fun e w' => e = .returned (.tuple #[]) ∧ At w0 w' p (S.crash ps) N := by
  have hwfS := h.wf
  obtain ⟨A, o, hP, ho, hw, hb⟩ := h
  have hP1 : PD w1 p S A o := hP.keep (Keep.ofNone (F := fun _ => False) hk) (fun _ _ h => h)
  refine (crash_ok hP1 hb hN (ps := ps) ⟨hl, hr, hwf, fun hd a ha => ?_⟩ hn).mono ?_
  · obtain ⟨_, _, _, _, hx⟩ := hP
    apply Classical.byContradiction
    intro hne
    rcases hnew hd a ha with h1 | h1
    · have := hx.lim a.block hne; omega
    · have := ho a.block hne; omega
  rintro e w' ⟨rfl, ha⟩
  exact ⟨rfl, aft_at (S := S) ho (hw.trans hk (by simp)) ha (hb.crash hwfS ps)⟩

theorem strokes_at (h : At w0 w p S N) : Calls Tryz.prog 18 #[.pointer (some ⟨p, 0, none⟩)] w fun e w' => e = .returned (.int .i64 S.strokes) ∧ w' = w := by
  obtain ⟨A, o, hP, _⟩ := h
  exact strokes_ok hP

theorem off_at (h : At w0 w p S N) : Calls Tryz.prog 25 #[.pointer (some ⟨p, 0, none⟩)] w fun e w' => e = .returned (.bool (!S.on)) ∧ w' = w := by
  obtain ⟨A, o, hP, _⟩ := h
  exact offD_ok hP

theorem used_at (h : At w0 w p S N) (hN : N ≤ 268435456) : Calls Tryz.prog 120 #[.pointer (some ⟨p, 0, none⟩)] w fun e w' => e = .returned (.int .i64 S.used) ∧ Kept [] w w' := by
  obtain ⟨A, o, hP, ho, hw, hb⟩ := h
  exact usedD_ok hP hb (by omega)

theorem files_at (h : At w0 w p S N) (hN : N ≤ 268435456) : Calls Tryz.prog 17 #[.pointer (some ⟨p, 0, none⟩)] w fun e w' => ∃ v vs, e = .returned v ∧ Fls w' w.heap.size v S.files vs ∧ Kept [] w w' := by
  obtain ⟨A, o, hP, ho, hw, hb⟩ := h
  exact files_ok hP hb hN

end

theorem new_at (r : Int) (w : World) (hr : (Lit.int .i64 r).wf = true) : Calls Tryz.prog 28 #[.int .i64 r] w fun e w' => ∃ v, e = .returned (.tuple #[v, .int .i64 (roomE r)]) ∧ Kept [] w w' ∧ (roomE r = 0 → ∃ p, v = .pointer (some ⟨p, 0, none⟩) ∧ At w w' p (Ds.fresh r.toNat) 0) ∧ (roomE r ≠ 0 → v = .pointer none) := by
  refine (new_ok r w hr).mono ?_
  rintro e w' ⟨v, rfl, h1, h2, h3⟩
  refine ⟨v, rfl, h3, fun h => ?_, h2⟩
  obtain ⟨p, A, o, e, hP, ho⟩ := h1 h
  exact ⟨p, e, A, o, hP, ho, h3, Ds.Bd.fresh _⟩
end

section
open Go.RowKit Dsk
set_option linter.unusedVariables false
set_option linter.unusedSimpArgs false

theorem new_sl (W : World) (d : By) (fr : Nat × Nat) : Sl (W.alloc (.cells (bys d).toArray 5 fr)) (some ⟨W.heap.size, 0, none⟩) d := by
  intro i hi
  have hh : (W.alloc (.cells (bys d).toArray 5 fr)).heap[W.heap.size]? = some (.cells (bys d).toArray 5 fr) := (MapKept.heap_alloc W _).1
  refine ⟨W.heap.size, 0, rfl, ?_⟩
  rw [Nat.zero_add, cell_of_row _ _ i _ _ _ hh]
  have := bys_at hi
  simpa using this

def K0 : Ds := Ds.fresh 20

def K1 : Ds := (K0.create [97]).2

def K2 : Ds := (K1.append [97] [120, 121, 122]).2

def K3 : Ds := (K2.sync [97]).2

def K4 : Ds := K3.syncNames.2

def K5 : Ds := (K4.append [97] [49, 50]).2

def K6 : Ds := (K5.rename [97] [98]).2

def K7 : Ds := K6.read [98] 2 2

def K8 : Ds := K7.crash [1, 1]

def K9 : Ds := (K8.remove [97]).2

theorem k1 : (K0.create [97]).1 = 0 := by decide

theorem k2 : (K1.append [97] [120, 121, 122]).1 = 0 := by decide

theorem k3 : (K2.sync [97]).1 = 0 := by decide

theorem k4 : K3.syncNames.1 = 0 := by decide

theorem k5 : (K4.append [97] [49, 50]).1 = 0 := by decide

theorem k6 : (K5.rename [97] [98]).1 = 0 := by decide

theorem k7 : K6.readOk [98] 2 2 = 0 := by decide

theorem k7b : K6.readBytes [98] 2 2 = [122, 49] := by decide

theorem k7s : K7.strokes = 6 := by decide

theorem k7r : K7.reads.length = 1 := by decide

theorem k8 : K8.files = [([98], [120, 121, 122, 49])] := by decide

theorem k9 : (K8.remove [97]).1 = 53 := by decide

theorem k9u : K9.used = 4 := by decide

/-- Two picks in a new row. -/
theorem new_ints (W : World) : Ints (W.alloc (.cells #[.int .i64 1, .int .i64 1] 3)) (some ⟨W.heap.size, 0, none⟩) [1, 1] := by
  intro i hi
  have hh : (W.alloc (.cells #[.int .i64 1, .int .i64 1] 3)).heap[W.heap.size]? = some (.cells #[.int .i64 1, .int .i64 1] 3 (0, 0)) := (MapKept.heap_alloc W _).1
  refine ⟨W.heap.size, 0, rfl, ?_⟩
  rw [Nat.zero_add, cell_of_row _ _ i _ _ _ hh]
  match i, hi with
  | 0, _ => rfl
  | 1, _ => rfl
end

section
open Go.ChangeShapes Go.WideShapes Go.ChangeAt Go.RowKit Go.Deep Go.Joins
set_option linter.unusedVariables false
set_option linter.unusedSimpArgs false

/-- A row of bytes that came in. -/
structure InB (w : World) (ao : Option Addr) (n cap : Nat) (xs : List UInt8) : Prop where
  len : xs.length = n
  le : n ≤ cap
  max : cap ≤ 140737488351232
  sl : Sl w ao xs
  nil : ao = none → xs = [] ∧ cap = 0
  spot : n ≠ 0 → ∀ a, ao = some a → a.spot = none

theorem inb_of_ints {w : World} {a : Addr} {len cap : Nat} {zs : List Int} (hl : len ≤ cap) (hm : cap ≤ 140737488351232) (hz : zs.length = cap) (hcell : ∀ i, i < zs.length → w.cell? (a.add i) = some (.int .u8 (zs.getD i 0))) (hwz : ∀ n ∈ zs, (Lit.int .u8 n).wf = true) :
    ∃ xs, InB w (some a) len cap xs := by
  obtain ⟨b, off, spot⟩ := a
  have hsp : len ≠ 0 → spot = none := fun h => by simpa [Addr.add] using World.cell?_spot (hcell 0 (by omega))
  refine ⟨(zs.take len).map (fun z => UInt8.ofNat z.toNat), by simp; omega, hl, by omega, ?_, by simp, fun h a ha => by cases ha; exact hsp h⟩
  intro i hi
  have hi' : i < len := by simp at hi; omega
  have hc := hcell i (by omega)
  obtain rfl := hsp (by omega)
  refine ⟨b, off, rfl, ?_⟩
  rw [Addr.add_mid] at hc
  rw [hc]
  have hzi : i < zs.length := by omega
  have hb := bounds_u8 (hwz (zs.getD i 0) (by simp [List.getElem?_eq_getElem hzi]))
  have e : ((zs.take len).map (fun z => UInt8.ofNat z.toNat)).getD i 0 = UInt8.ofNat (zs.getD i 0).toNat := by
    simp [List.getElem?_eq_getElem hzi, hi']
  rw [e, UInt8.toNat_ofNat', Nat.mod_eq_of_lt (by omega)]
  congr 2
  omega

section
variable {H : Type} {enc : TypeId × Value → H} {w : World}

theorem open_bytes {fuel : Nat} {v : Value} {x : DataW H × List MemPlace} (h : DataW.trod enc Tryz.prog w 0 (fun _ => true) true fuel 28 [v] = some x) (hw : ∀ n ∈ x.1.weights Tryz.prog 28, n ≤ reachBytes) :
    ∃ ao n cap xs, v = .slice ao n cap ∧ InB w ao n cap xs := by
  rcases open_ints Tryz.underlying28 Tryz.underlying5 (by kernel_rfl) h with ⟨hcs, _⟩ | ⟨a, l, c, zs, hcs, _, hl, hm, hz, hx, hcell, hwz⟩
  · cases hcs
    exact ⟨none, 0, 0, [], rfl, rfl, Nat.le_refl _, by omega, Sl.nil _ _, fun _ => ⟨rfl, rfl⟩, by simp⟩
  · cases hcs
    have hb1 : Tryz.prog.bytesOf 5 = 1 := by kernel_rfl
    have hz' : zs.length = c := by simpa using hz
    have hsz : c ≤ 140737488351232 := by
      have := hw ((zs.take l).length + (zs.drop l).length) (by
        rw [hx]
        simp only [DataW.weights, Tryz.underlying28, hb1, Nat.mul_one, lits, List.length_map, List.mem_cons, true_or])
      have hr : reachBytes = 140737488351232 := rfl
      rw [hr] at this
      simp at this
      omega
    obtain ⟨xs, h⟩ := inb_of_ints hl hsz hz' hcell hwz
    exact ⟨some a, l, c, xs, rfl, h⟩

end
end

section
open Go.ChangeShapes Go.WideShapes Go.ChangeAt Go.RowKit Go.Deep Go.Joins Dsk
set_option linter.unusedVariables false
set_option linter.unusedSimpArgs false

/-- A step of a script. -/
structure Stp where
  kind : Int
  name : By
  to : By
  at_ : Int
  n : Int
  da : Option Addr
  dn : Nat
  dc : Nat
  ds : By
  po : Int
  pf : Int
  pt : Int
  pa : Option Addr
  pn : Nat
  pc : Nat
  ps : List Int
def stp0 : Stp := ⟨0, [], [], 0, 0, none, 0, 0, [], 0, 0, 0, none, 0, 0, []⟩
instance : Inhabited Stp := ⟨stp0⟩
def Stp.cells (s : Stp) : List Value := [.int .i64 s.kind, encStr s.name, encStr s.to, .int .i64 s.at_, .int .i64 s.n, .slice s.da s.dn s.dc, .int .i64 s.po, .int .i64 s.pf, .int .i64 s.pt, .slice s.pa s.pn s.pc]
/-- What holds of one that came in. -/
structure StpIn (w : World) (s : Stp) : Prop where
  inb : InB w s.da s.dn s.dc s.ds
  nm : s.name.length ≤ 4611686018427387904
  tm : s.to.length ≤ 4611686018427387904
  wk : (Lit.int .i64 s.kind).wf = true
  wa : (Lit.int .i64 s.at_).wf = true
  wn : (Lit.int .i64 s.n).wf = true
  wo : (Lit.int .i64 s.po).wf = true
  wf : (Lit.int .i64 s.pf).wf = true
  wt : (Lit.int .i64 s.pt).wf = true
  pl : s.ps.length = s.pn
  pc : s.pn ≤ s.pc
  pm : s.pn ≤ 17592186044416
  pr : Ints w s.pa s.ps
  pw : ∀ i, (Lit.int .i64 (s.ps.getD i 0)).wf = true
  pz : s.pa = none → s.pn = 0 ∧ s.pc = 0
def Scr (w : World) (ao : Option Addr) (L : List Stp) : Prop :=
  ∀ i, i < L.length → ∃ b off, ao = some ⟨b, off, none⟩ ∧ (∀ j v, (L.getD i stp0).cells[j]? = some v → w.cell? ⟨b, off + 10 * i + j, none⟩ = some v) ∧ StpIn w (L.getD i stp0)

section
variable {H : Type} {enc : TypeId × Value → H} {w : World}
theorem weights_all {P : Program} {e : TypeId} {l : List (DataW H)} {d : DataW H} (h : d ∈ l) {n : Nat} (hn : n ∈ d.weights P e) : n ∈ DataW.weightsAll P e l := by
  induction l with
  | nil => simp at h
  | cons x l ih =>
    simp only [DataW.weightsAll, List.mem_append]
    simp only [List.mem_cons] at h
    rcases h with rfl | h
    · exact .inl hn
    · exact .inr (ih h)

theorem str_small {y : DataW H × List MemPlace} {L : List UInt8} {P : Program} {t : TypeId} {q : List MemPlace} (hy : y = (.lit (.string (ByteArray.mk L.toArray).data.toList), q)) (h : ∀ k ∈ y.1.weights P t, k ≤ reachBytes) : L.length ≤ 4611686018427387904 := by
  subst hy
  have := h _ (by simp only [DataW.weights]; exact List.mem_singleton.2 rfl)
  have hr : reachBytes = 140737488351232 := rfl
  rw [hr] at this
  have h2 : L.length ≤ 140737488351232 := this
  omega
set_option maxRecDepth 100000 in
theorem open_picks {fuel : Nat} {v : Value} {x : DataW H × List MemPlace} (h : DataW.trod enc Tryz.prog w 0 (fun _ => true) true fuel 31 [v] = some x) (hw : ∀ n ∈ x.1.weights Tryz.prog 31, n ≤ reachBytes) :
    ∃ ao n cap ps, v = .slice ao n cap ∧ ps.length = n ∧ n ≤ cap ∧ n ≤ 17592186044416 ∧ Ints w ao ps ∧ (∀ i, (Lit.int .i64 (ps.getD i 0)).wf = true) ∧ (ao = none → n = 0 ∧ cap = 0) := by
  rcases open_ints Tryz.underlying31 Tryz.underlying3 (by kernel_rfl) h with ⟨hcs, _⟩ | ⟨a, l, c, zs, hcs, _, hl, hm, hz, hx, hcell, hwz⟩
  · cases hcs
    exact ⟨none, 0, 0, [], rfl, rfl, Nat.le_refl _, by omega, fun i hi => by simp at hi, fun i => by simp; decide, fun _ => ⟨rfl, rfl⟩⟩
  · cases hcs
    have hb1 : Tryz.prog.bytesOf 3 = 8 := by kernel_rfl
    have hz' : zs.length = c := by simpa using hz
    have hsz : c * 8 ≤ 140737488351232 := by
      have := hw (((zs.take l).length + (zs.drop l).length) * 8) (by
        rw [hx]
        simp only [DataW.weights, Tryz.underlying31, hb1, lits, List.length_map, List.mem_cons, true_or])
      have hr : reachBytes = 140737488351232 := rfl
      rw [hr] at this
      simp at this
      omega
    obtain ⟨b, off, spot⟩ := a
    have hlen : (zs.take l).length = l := by simp; omega
    refine ⟨_, l, c, zs.take l, rfl, hlen, hl, by omega, fun i hi => ?_, fun i => ?_, by simp⟩
    · have hi' : i < l := by omega
      have hsp : spot = none := by simpa [Addr.add] using World.cell?_spot (hcell 0 (by omega))
      subst hsp
      refine ⟨b, off, rfl, ?_⟩
      have hc := hcell i (by omega)
      rw [Addr.add_mid] at hc
      rw [hc]
      simp [List.getElem?_take, hi']
    · by_cases hi : i < l
      · have hzi : i < zs.length := by omega
        have e : (zs.take l).getD i 0 = zs[i] := by simp [List.getElem?_take, hi, List.getElem?_eq_getElem hzi]
        rw [e]
        exact hwz _ (List.getElem_mem _)
      · have e : (zs.take l).getD i 0 = 0 := by simp [List.getElem?_take, hi]
        rw [e]
        decide
end
end

end Go.Proofs.YtemlbmamcbmnjaaGreatDoor
