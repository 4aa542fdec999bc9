import Derived.Test.YtodihkdmneihiaaGreatDoorGyp
import Derived.Carry
import Derived.Maps.OwnSet
import Derived.Test.YtodihkdmneihiaaGreatDoorHkp
import Derived.Lib.SlBytesConst
import Derived.Test.YtodihkdmneihiaaGreatDoorProg
import Derived.Test.YtodihkdmneihiaaGreatDoorMemp
import Derived.ProofKit
import Derived.OpenShut
import Derived.Deep.Slices
import Derived.Lib.SmallJoins
import Derived.Deep.MidRow
import Derived.Test.YtodihkdmneihiaaGreatDoorGnp
import Derived.Laws.AppendOwnNone
namespace Go.Proofs.YtodihkdmneihiaaGreatDoor
section
open Go.RowKit Dsk
set_option linter.unusedVariables false
set_option linter.unusedSimpArgs false
def roomE (r : Int) : Int := if r < 1 ∨ 1048576 < r then 1 else 0
set_option maxHeartbeats 1600000 in
set_option maxRecDepth 100000 in
theorem refusedNil_ok (r : Int) (w : World) : Calls Tryz.prog 92 #[.int .i64 r, .slice none 0 0] w fun e w' => e = .returned (.int .i64 (roomE r)) ∧ Kept [] w w' := by
 have hmm := @run_makeMap Tryz.prog
 have hlen : (Builtin.len_ #[196] 3 #[.map (some w.heap.size)]).run Tryz.prog (w.alloc (.map #[] 0)) = .ok (.int .i64 0) (w.alloc (.map #[] 0)) := by
  have := World.ownsMap.len (World.ownsMap_made (H := Unit) w Tryz.prog 9 (fun _ => none)) Tryz.underlying196 3
  simpa [Maps.size_eq] using this
 have hK := hide ((Kept.refl [] w).alloc (.map #[] 0))
 go_enter Tryz.func92, Tryz.ntmps92
 by_cases h1 : r < 1
 ·have HE : Hid (roomE r = 1) := hide (by unfold roomE; rw [if_pos (.inl h1)])
  go_wp2
  go_ret
  exact ⟨by rw [HE.out]; rfl, Kept.refl _ _⟩
 by_cases h2 : 1048576 < r
 ·have HE : Hid (roomE r = 1) := hide (by unfold roomE; rw [if_pos (.inr h2)])
  go_wp2
  go_ret
  exact ⟨by rw [HE.out]; rfl, Kept.refl _ _⟩
 have HE : Hid (roomE r = 0) := hide (by unfold roomE; rw [if_neg (by omega)])
 go_wp2
 refine wp_loop_rounds 1 ?_
 rw [rounds_succ]
 go_wp2
 go_ret
 exact ⟨by rw [HE.out]; rfl, hK.out⟩
def NewD (w w' : World) (r : Int) (v : Value) : Prop :=
 (roomE r = 0 → ∃ p A o, v = .pointer (some ⟨p, 0, none⟩) ∧ PD w' p (Ds.fresh r.toNat) A o ∧ (∀ b, o b ≠ 0 → w.heap.size ≤ b)) ∧ (roomE r ≠ 0 → v = .pointer none) ∧ Kept [] w w'
set_option maxHeartbeats 1600000 in
set_option maxRecDepth 100000 in
theorem loadNil_ok (r : Int) (w : World) (hr : (Lit.int .i64 r).wf = true) : Calls Tryz.prog 49 #[.int .i64 r, .slice none 0 0] w fun e w' => ∃ v, e = .returned (.tuple #[v, .int .i64 (roomE r)]) ∧ NewD w w' r v := by
 have hmm := @run_makeMap Tryz.prog
 have hrf := refusedNil_ok r w
 go_enter Tryz.func49, Tryz.ntmps49
 by_cases h0 : roomE r = 0
 ·rw [h0] at hrf
  have hrn : 1 ≤ r ∧ r ≤ 1048576 := by unfold roomE at h0; split at h0 <;> omega
  have HE := hide h0
  clear h0
  go_upto_region 6 with (go_at_call 92; refine hrf.mono ?_; rintro e w1 ⟨rfl, hk1⟩; clear hrf)
  have hrc : (r.toNat : Int) = r := by omega
  have hQ : ((w1.alloc (.cells #[.int .i64 r, .bool true, .map none, .slice none 0 0, .map (some (w1.heap.size + 1)), .int .i64 0, .int .i64 0, .int .i64 0, .int .i64 0, .int .i64 0, .slice none 0 0] 97)).alloc (.map #[] 0)).heap[w1.heap.size]? = some (.cells #[.int .i64 r, .bool true, .map none, .slice none 0 0, .map (some (w1.heap.size + 1)), .int .i64 0, .int .i64 0, .int .i64 0, .int .i64 0, .int .i64 0, .slice none 0 0] 97 (0, 0)) := (Below.heap_alloc _ _ _ (by simp)).trans (MapKept.heap_alloc w1 _).1
  have hM : Mp ((w1.alloc (.cells #[.int .i64 r, .bool true, .map none, .slice none 0 0, .map (some (w1.heap.size + 1)), .int .i64 0, .int .i64 0, .int .i64 0, .int .i64 0, .int .i64 0, .slice none 0 0] 97)).alloc (.map #[] 0)) (w1.heap.size + 1) (fun _ => 0) [] := by
   have := World.ownsMap_made (H := Unit) (w1.alloc (.cells #[.int .i64 r, .bool true, .map none, .slice none 0 0, .map (some (w1.heap.size + 1)), .int .i64 0, .int .i64 0, .int .i64 0, .int .i64 0, .int .i64 0, .slice none 0 0] 97)) Tryz.prog 9 ptrElem
   have e : (w1.alloc (.cells #[.int .i64 r, .bool true, .map none, .slice none 0 0, .map (some (w1.heap.size + 1)), .int .i64 0, .int .i64 0, .int .i64 0, .int .i64 0, .int .i64 0, .slice none 0 0] 97)).heap.size = w1.heap.size + 1 := by simp
   rw [e] at this
   exact this
  have hkA : Keep (fun b => w.heap.size ≤ b) w ((w1.alloc (.cells #[.int .i64 r, .bool true, .map none, .slice none 0 0, .map (some (w1.heap.size + 1)), .int .i64 0, .int .i64 0, .int .i64 0, .int .i64 0, .int .i64 0, .slice none 0 0] 97)).alloc (.map #[] 0)) := ((Keep.ofNone hk1).alloc _).alloc _
  have hds := dirSync_ok w1.heap.size 2 (w1.heap.size + 1) 97 _ (fun _ => 0) [] _ hQ (by simp) rfl hM
  have hp1 := hk1.size
  have FIN : Hid (∀ w3, DirSynced ((w1.alloc (.cells #[.int .i64 r, .bool true, .map none, .slice none 0 0, .map (some (w1.heap.size + 1)), .int .i64 0, .int .i64 0, .int .i64 0, .int .i64 0, .int .i64 0, .slice none 0 0] 97)).alloc (.map #[] 0)) w3 w1.heap.size 2 (w1.heap.size + 1) 97 #[.int .i64 r, .bool true, .map none, .slice none 0 0, .map (some (w1.heap.size + 1)), .int .i64 0, .int .i64 0, .int .i64 0, .int .i64 0, .int .i64 0, .slice none 0 0] (fun _ => 0) [] → NewD w w3 r (.pointer (some ⟨w1.heap.size, 0, none⟩))) := fun w3 hs => by
   obtain ⟨nb, k1, k2, k3, k4, k5⟩ := hs
   have hsz : w1.heap.size + 1 < w3.heap.size := k3.lt
   have hK3 : Keep (fun b => w.heap.size ≤ b) w w3 := hkA.trans k4 (fun i e _ => by rw [e]; exact hp1)
   refine ⟨fun _ => ⟨w1.heap.size, fun _ => 0, fun b => if w.heap.size ≤ b ∧ b < w3.heap.size then 1 else 0, rfl, ⟨nb, w1.heap.size + 1, .slice none 0 0, .slice none 0 0, ?_⟩, fun b hb => ?_⟩, fun h => absurd HE.out h, hK3.os, hK3.tape, hK3.output, hK3.size, fun i hi _ => hK3.block i hi (by omega)⟩
   ·have hl : ∀ b, w.heap.size ≤ b → b < w3.heap.size → (fun b => if w.heap.size ≤ b ∧ b < w3.heap.size then 1 else 0) b = 1 := fun b h1 h2 => if_pos ⟨h1, h2⟩
    have hnb := k2.lt
    have hnb2 : w1.heap.size + 1 < nb := by have := hM.lt; omega
    refine ⟨Ds.Wf.fresh (by omega), ?_, by omega, k2, k3, World.ownsRow_nil _ _ _ _, World.ownsRow_nil _ _ _ _, fun k hk => absurd hk (Nat.not_lt_zero _), hl _ hp1 (by omega), hl _ (by omega) hnb, hl _ (by omega) (by omega), by simp [Value.ownBlock], by simp [Value.ownBlock], fun b hb => ?_, (show (Lit.int .i64 0).wf = true ∧ (Lit.int .i64 0).wf = true ∧ (Lit.int .i64 0).wf = true from ⟨by decide, by decide, by decide⟩)⟩
    ·rw [k1]
     simp [Ds.fresh, hrc]
    ·by_cases hc : w.heap.size ≤ b ∧ b < w3.heap.size
     ·exact hc.2
     ·simp [hc] at hb
   ·by_cases hc : w.heap.size ≤ b ∧ b < w3.heap.size
    ·exact hc.1
    ·simp [hc] at hb
  clear hM hkA hrc
  generalize ((w1.alloc (.cells #[.int .i64 r, .bool true, .map none, .slice none 0 0, .map (some (w1.heap.size + 1)), .int .i64 0, .int .i64 0, .int .i64 0, .int .i64 0, .int .i64 0, .slice none 0 0] 97)).alloc (.map #[] 0)) = w2 at hQ hds FIN ⊢
  go_wp2
  refine wp_loop_rounds 1 ?_
  rw [rounds_succ]
  go_wp2_with (go_at_call 83; refine hds.mono ?_; rintro e w3 ⟨rfl, hS3⟩; have H3 := hide (FIN.out w3 hS3); clear hS3)
  go_ret2
  exact ⟨_, by rw [HE.out]; rfl, H3.out⟩
 ·have hv : Hid (∀ w', Kept [] w w' → NewD w w' r (.pointer none)) := fun w' hk => ⟨fun h => absurd h h0, fun _ => rfl, hk⟩
  have e0 : (roomE r != 0) = true := by simpa using h0
  generalize hE : roomE r = E at hrf e0
  have HE := hide hE
  clear h0 hE
  go_wp2_with (go_at_call 92; refine hrf.mono ?_; rintro e w1 ⟨rfl, hk1⟩; clear hrf)
  go_ret2
  exact ⟨_, rfl, hv.out _ hk1⟩
set_option maxHeartbeats 800000 in
set_option maxRecDepth 100000 in
theorem new_ok (r : Int) (w : World) (hr : (Lit.int .i64 r).wf = true) : Calls Tryz.prog 10 #[.int .i64 r] w fun e w' => ∃ v, e = .returned (.tuple #[v, .int .i64 (roomE r)]) ∧ NewD w w' r v := by
 have hl := loadNil_ok r w hr
 go_enter Tryz.func10, Tryz.ntmps10
 go_wp2_with (go_at_call 49; refine hl.mono ?_; rintro e w1 ⟨v, rfl, hn⟩)
 go_ret2
 exact ⟨v, rfl, hn⟩
end

section
open Go.RowKit Dsk
set_option linter.unusedVariables false
set_option linter.unusedSimpArgs false
def At (w0 w : World) (p : Nat) (S : Ds) (N : Nat) : Prop := ∃ A o, PD w p S A o ∧ (∀ b, o b ≠ 0 → w0.heap.size ≤ b) ∧ Kept [] w0 w ∧ S.Bd N
theorem At.wf {w0 w : World} {p : Nat} {S : Ds} {N : Nat} (h : At w0 w p S N) : S.Wf := by
 obtain ⟨A, o, ⟨_, _, _, _, h⟩, _⟩ := h
 exact h.wf
theorem At.bd {w0 w : World} {p : Nat} {S : Ds} {N : Nat} (h : At w0 w p S N) : S.Bd N := h.choose_spec.choose_spec.2.2.2
theorem At.old {w0 w : World} {p : Nat} {S : Ds} {N : Nat} (h : At w0 w p S N) : Kept [] w0 w := h.choose_spec.choose_spec.2.2.1
theorem At.kept {w0 w w' : World} {p : Nat} {S : Ds} {N : Nat} (h : At w0 w p S N) (hk : Kept [] w w') : At w0 w' p S N := by
 obtain ⟨A, o, hP, ho, hw, hb⟩ := h
 exact ⟨A, o, hP.keep (Keep.ofNone (F := fun _ => False) hk) (fun _ _ h => h), ho, hw.trans hk (by simp), hb⟩
theorem At.mono {w0 w : World} {p : Nat} {S : Ds} {N M : Nat} (h : At w0 w p S N) (hm : N ≤ M) : At w0 w p S M := by
 obtain ⟨A, o, hP, ho, hw, hb⟩ := h
 exact ⟨A, o, hP, ho, hw, hb.mono hm⟩
section
variable {w0 w : World} {p : Nat} {S : Ds} {N : Nat}
theorem size_at (h : At w0 w p S N) (nm : By) (hnl : nm.length ≤ 4611686018427387904) : Calls Tryz.prog 54 #[.pointer (some ⟨p, 0, none⟩), encStr nm] w fun e w' => e = .returned (.tuple #[.int .i64 (S.size nm), .int .i64 (S.find nm).1]) ∧ w' = w := by
 obtain ⟨A, o, hP, _⟩ := h
 exact size_ok hP nm hnl
theorem strokes_at (h : At w0 w p S N) : Calls Tryz.prog 14 #[.pointer (some ⟨p, 0, none⟩)] w fun e w' => e = .returned (.int .i64 S.strokes) ∧ w' = w := by
 obtain ⟨A, o, hP, _⟩ := h
 exact strokes_ok hP
end
theorem new_at (r : Int) (w : World) (hr : (Lit.int .i64 r).wf = true) : Calls Tryz.prog 10 #[.int .i64 r] w fun e w' => ∃ v, e = .returned (.tuple #[v, .int .i64 (roomE r)]) ∧ Kept [] w w' ∧ (roomE r = 0 → ∃ p, v = .pointer (some ⟨p, 0, none⟩) ∧ At w w' p (Ds.fresh r.toNat) 0) ∧ (roomE r ≠ 0 → v = .pointer none) := by
 refine (new_ok r w hr).mono ?_
 rintro e w' ⟨v, rfl, h1, h2, h3⟩
 refine ⟨v, rfl, h3, fun h => ?_, h2⟩
 obtain ⟨p, A, o, e, hP, ho⟩ := h1 h
 exact ⟨p, e, A, o, hP, ho, h3, Ds.Bd.fresh _⟩
end

section
open Go.RowKit Dsk
set_option linter.unusedVariables false
set_option linter.unusedSimpArgs false
def K0 : Ds := Ds.fresh 20
def K1 : Ds := (K0.create [97]).2
def K2 : Ds := (K1.append [97] [120, 121, 122]).2
def K3 : Ds := (K2.sync [97]).2
def K4 : Ds := K3.syncNames.2
def K5 : Ds := (K4.append [97] [49, 50]).2
def K6 : Ds := (K5.rename [97] [98]).2
def K7 : Ds := K6.read [98] 2 2
def K8 : Ds := K7.crash [1, 1]
def K9 : Ds := (K8.remove [97]).2
theorem k1 : (K0.create [97]).1 = 0 := by decide
theorem k2 : (K1.append [97] [120, 121, 122]).1 = 0 := by decide
theorem k3 : (K2.sync [97]).1 = 0 := by decide
theorem k4 : K3.syncNames.1 = 0 := by decide
theorem k5 : (K4.append [97] [49, 50]).1 = 0 := by decide
theorem k6 : (K5.rename [97] [98]).1 = 0 := by decide
theorem k7 : K6.readOk [98] 2 2 = 0 := by decide
end

section
open Go.ChangeShapes Go.WideShapes Go.ChangeAt Go.RowKit Go.Deep Go.Joins
set_option linter.unusedVariables false
set_option linter.unusedSimpArgs false
structure InB (w : World) (ao : Option Addr) (n cap : Nat) (xs : List UInt8) : Prop where
 len : xs.length = n
 le : n ≤ cap
 max : cap ≤ 140737488351232
 sl : Sl w ao xs
 nil : ao = none → xs = [] ∧ cap = 0
 spot : n ≠ 0 → ∀ a, ao = some a → a.spot = none
theorem inb_of_ints {w : World} {a : Addr} {len cap : Nat} {zs : List Int} (hl : len ≤ cap) (hm : cap ≤ 140737488351232) (hz : zs.length = cap) (hcell : ∀ i, i < zs.length → w.cell? (a.add i) = some (.int .u8 (zs.getD i 0))) (hwz : ∀ n ∈ zs, (Lit.int .u8 n).wf = true) :
  ∃ xs, InB w (some a) len cap xs := by
 obtain ⟨b, off, spot⟩ := a
 have hsp : len ≠ 0 → spot = none := fun h => by simpa [Addr.add] using World.cell?_spot (hcell 0 (by omega))
 refine ⟨(zs.take len).map (fun z => UInt8.ofNat z.toNat), by simp; omega, hl, by omega, ?_, by simp, fun h a ha => by cases ha; exact hsp h⟩
 intro i hi
 have hi' : i < len := by simp at hi; omega
 have hc := hcell i (by omega)
 obtain rfl := hsp (by omega)
 refine ⟨b, off, rfl, ?_⟩
 rw [Addr.add_mid] at hc
 rw [hc]
 have hzi : i < zs.length := by omega
 have hb := bounds_u8 (hwz (zs.getD i 0) (by simp [List.getElem?_eq_getElem hzi]))
 have e : ((zs.take len).map (fun z => UInt8.ofNat z.toNat)).getD i 0 = UInt8.ofNat (zs.getD i 0).toNat := by
  simp [List.getElem?_eq_getElem hzi, hi']
 rw [e, UInt8.toNat_ofNat', Nat.mod_eq_of_lt (by omega)]
 congr 2
 omega
section
variable {H : Type} {enc : TypeId × Value → H} {w : World}
theorem open_bytes {fuel : Nat} {v : Value} {x : DataW H × List MemPlace} (h : DataW.trod enc Tryz.prog w 0 (fun _ => true) true fuel 28 [v] = some x) (hw : ∀ n ∈ x.1.weights Tryz.prog 28, n ≤ reachBytes) :
  ∃ ao n cap xs, v = .slice ao n cap ∧ InB w ao n cap xs := by
 rcases open_ints Tryz.underlying28 Tryz.underlying5 (by kernel_rfl) h with ⟨hcs, _⟩ | ⟨a, l, c, zs, hcs, _, hl, hm, hz, hx, hcell, hwz⟩
 ·cases hcs
  exact ⟨none, 0, 0, [], rfl, rfl, Nat.le_refl _, by omega, Sl.nil _ _, fun _ => ⟨rfl, rfl⟩, by simp⟩
 ·cases hcs
  have hb1 : Tryz.prog.bytesOf 5 = 1 := by kernel_rfl
  have hz' : zs.length = c := by simpa using hz
  have hsz : c ≤ 140737488351232 := by
   have := hw ((zs.take l).length + (zs.drop l).length) (by
    rw [hx]
    simp only [DataW.weights, Tryz.underlying28, hb1, Nat.mul_one, lits, List.length_map, List.mem_cons, true_or])
   have hr : reachBytes = 140737488351232 := rfl
   rw [hr] at this
   simp at this
   omega
  obtain ⟨xs, h⟩ := inb_of_ints hl hsz hz' hcell hwz
  exact ⟨some a, l, c, xs, rfl, h⟩
end
end

section
open Go.ChangeShapes Go.WideShapes Go.ChangeAt Go.RowKit Go.Deep Go.Joins Dsk
set_option linter.unusedVariables false
set_option linter.unusedSimpArgs false
structure Stp where
 kind : Int
 name : By
 to : By
 at_ : Int
 n : Int
 da : Option Addr
 dn : Nat
 dc : Nat
 ds : By
 po : Int
 pf : Int
 pt : Int
 pa : Option Addr
 pn : Nat
 pc : Nat
 ps : List Int
def stp0 : Stp := ⟨0, [], [], 0, 0, none, 0, 0, [], 0, 0, 0, none, 0, 0, []⟩
instance : Inhabited Stp := ⟨stp0⟩
def Stp.cells (s : Stp) : List Value := [.int .i64 s.kind, encStr s.name, encStr s.to, .int .i64 s.at_, .int .i64 s.n, .slice s.da s.dn s.dc, .int .i64 s.po, .int .i64 s.pf, .int .i64 s.pt, .slice s.pa s.pn s.pc]
section
variable {H : Type} {enc : TypeId × Value → H} {w : World}
theorem weights_all {P : Program} {e : TypeId} {l : List (DataW H)} {d : DataW H} (h : d ∈ l) {n : Nat} (hn : n ∈ d.weights P e) : n ∈ DataW.weightsAll P e l := by
 induction l with
 | nil => simp at h
 | cons x l ih =>
  simp only [DataW.weightsAll, List.mem_append]
  simp only [List.mem_cons] at h
  rcases h with rfl | h
  ·exact .inl hn
  ·exact .inr (ih h)
set_option maxRecDepth 100000 in
theorem open_picks {fuel : Nat} {v : Value} {x : DataW H × List MemPlace} (h : DataW.trod enc Tryz.prog w 0 (fun _ => true) true fuel 31 [v] = some x) (hw : ∀ n ∈ x.1.weights Tryz.prog 31, n ≤ reachBytes) :
  ∃ ao n cap ps, v = .slice ao n cap ∧ ps.length = n ∧ n ≤ cap ∧ n ≤ 17592186044416 ∧ Ints w ao ps ∧ (∀ i, (Lit.int .i64 (ps.getD i 0)).wf = true) ∧ (ao = none → n = 0 ∧ cap = 0) := by
 rcases open_ints Tryz.underlying31 Tryz.underlying3 (by kernel_rfl) h with ⟨hcs, _⟩ | ⟨a, l, c, zs, hcs, _, hl, hm, hz, hx, hcell, hwz⟩
 ·cases hcs
  exact ⟨none, 0, 0, [], rfl, rfl, Nat.le_refl _, by omega, fun i hi => by simp at hi, fun i => by simp; decide, fun _ => ⟨rfl, rfl⟩⟩
 ·cases hcs
  have hb1 : Tryz.prog.bytesOf 3 = 8 := by kernel_rfl
  have hz' : zs.length = c := by simpa using hz
  have hsz : c * 8 ≤ 140737488351232 := by
   have := hw (((zs.take l).length + (zs.drop l).length) * 8) (by
    rw [hx]
    simp only [DataW.weights, Tryz.underlying31, hb1, lits, List.length_map, List.mem_cons, true_or])
   have hr : reachBytes = 140737488351232 := rfl
   rw [hr] at this
   simp at this
   omega
  obtain ⟨b, off, spot⟩ := a
  have hlen : (zs.take l).length = l := by simp; omega
  refine ⟨_, l, c, zs.take l, rfl, hlen, hl, by omega, fun i hi => ?_, fun i => ?_, by simp⟩
  ·have hi' : i < l := by omega
   have hsp : spot = none := by simpa [Addr.add] using World.cell?_spot (hcell 0 (by omega))
   subst hsp
   refine ⟨b, off, rfl, ?_⟩
   have hc := hcell i (by omega)
   rw [Addr.add_mid] at hc
   rw [hc]
   simp [List.getElem?_take, hi']
  ·by_cases hi : i < l
   ·have hzi : i < zs.length := by omega
    have e : (zs.take l).getD i 0 = zs[i] := by simp [List.getElem?_take, hi, List.getElem?_eq_getElem hzi]
    rw [e]
    exact hwz _ (List.getElem_mem _)
   ·have e : (zs.take l).getD i 0 = 0 := by simp [List.getElem?_take, hi]
    rw [e]
    decide
end
end

section
open Go.RowKit Dsk
set_option linter.unusedVariables false
set_option linter.unusedSimpArgs false
/-! ### long -/
/-! ### a row copied -/
theorem run_fresh (v : World) (t ty e : TypeId) {z : Value} {bs : Nat} (ht : Tryz.prog.underlying t = some (.slice e)) (hi : (Tryz.prog.info? e).map (fun i => (i.zero, i.size, i.bytes)) = some (some z, 1, bs)) (hzs : z.cells.size = 1) (ao : Option Addr) (n c : Nat) (ys : List Value) (hl : ys.length = n) (hy : ∀ j u, ys[j]? = some u → ∃ b off, ao = some ⟨b, off, none⟩ ∧ v.cell? ⟨b, off + j, none⟩ = some u) (h0 : ao = none → n = 0 ∧ c = 0) (h1 : ∀ u ∈ ys, u.oneCell' = true) (hn : n ≤ maxLen) (hb : n * bs ≤ 140737488355328) :
  ∃ g c' w', (Builtin.append_ #[t, t] ty #[.slice (some ⟨v.heap.size, 0, none⟩) 0 0, .slice ao n c]).run Tryz.prog (v.alloc (.cells #[] e)) = .ok (.slice (some ⟨g, 0, none⟩) n c') w' ∧ w'.ownsRow 0 e 1 (.slice (some ⟨g, 0, none⟩) n c') n ys ∧ Kept [] v w' ∧ v.heap.size ≤ g := by
 have hown : (v.alloc (.cells #[] e)).ownsRow v.heap.size e 1 (.slice (some ⟨v.heap.size, 0, none⟩) 0 0) 0 [] := World.ownsRow_made v #[] 0 (Nat.le_refl _) (by decide) rfl
 have hk := (Kept.refl [] v).alloc (.cells #[] e)
 obtain ⟨i0, hi, hz0, hz1, hz2⟩ := info_parts hi
 cases ao with
 | none =>
  obtain ⟨rfl, rfl⟩ := h0 rfl
  have : ys = [] := List.eq_nil_of_length_eq_zero hl
  subst this
  refine ⟨v.heap.size, 0, _, run_append_owned_none (P := Tryz.prog) (w := v.alloc (.cells #[] e)) v.heap.size t ty e i0 1 ht hi _ 0 [] hown, ownsRow_base_a hown (Nat.zero_le _), hk, Nat.le_refl _⟩
 | some ad =>
  obtain ⟨v', w', hrun, h1', h2, h3, h4⟩ := run_append_own_at (P := Tryz.prog) (v.alloc (.cells #[] e)) v.heap.size t ty e i0 z 1 bs ht hi hz0 hz1 hz2 hzs (by decide) _ 0 [] hown ad n c ys (by omega) (fun j u hj => by
   obtain ⟨b, off, e1, hc⟩ := hy j u hj
   cases e1
   rw [show ((⟨b, off, none⟩ : Addr).add j) = ⟨b, off + j, none⟩ from by unfold Addr.add; by_cases h : j = 0 <;> simp [h]]
   exact hk.cellOf hc (by simp)) h1 (by omega) (by rw [Nat.zero_add]; exact hb) hk.size
  rw [Nat.zero_add, List.nil_append] at h1'
  have hk' : Kept [] v w' := hk.grown h2 (by intro k hk2 hlt; simp [Value.ownBlock] at hk2; omega)
  rcases h1'.2 with ⟨e1, e2⟩ | ⟨g, cap', cur, e1, hg, _⟩
  ·have := (h3.1 e1).1
   simp at this
  ·subst e1
   exact ⟨g, cap', w', hrun, ownsRow_base_a h1' (Nat.zero_le _), hk', hg⟩
def ins (ps : List Int) : List Value := ps.map (Value.int .i64)
end

end Go.Proofs.YtodihkdmneihiaaGreatDoor
