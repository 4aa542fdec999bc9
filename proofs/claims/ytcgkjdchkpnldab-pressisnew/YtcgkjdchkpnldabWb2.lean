/-
  Contract: freightlaw4.awake.
-/
import Derived.Test.YtcgkjdchkpnldabWa2
import Derived.Test.YtcgkjdchkpnldabVh
import Derived.Test.YtcgkjdchkpnldabUf
import Derived.Lib.SlBytesConst
import Derived.Laws.BytesString
import Derived.Deep.MidRow
namespace Go.Proofs.Ytcgkjdchkpnldab
open Go.RowKit
set_option linter.unusedVariables false
set_option linter.unusedSimpArgs false

theorem new_sl (W : World) (xs : List UInt8) (fr : Nat × Nat) : Sl (W.alloc (.cells (bys xs).toArray 5 fr)) (some ⟨W.heap.size, 0, none⟩) xs := by
  refine Sl.of fun i hi => ?_
  rw [Nat.zero_add]
  unfold World.cell?
  rw [heap_alloc_new]
  simpa using bys_at hi

theorem Sl.below {B : Nat} {w w' : World} {ao : Option Addr} {xs : List UInt8} (h : Sl w ao xs) (hb : Below B w w') (hl : ∀ a, ao = some a → a.block < B) : Sl w' ao xs := by
  intro i hi
  obtain ⟨b', off', e', hc⟩ := h i hi
  exact ⟨b', off', e', by rw [hb.cell (p := ⟨b', off' + i, none⟩) (by have h1 := hl _ e'; exact h1)]; exact hc⟩
theorem Below.less {B C : Nat} {w w' : World} (h : Below C w w') (hb : B ≤ C) : Below B w w' := ⟨h.os, h.tape, h.output, h.size, fun i hi => h.block i (by omega)⟩

def abc8 : List UInt8 := [97, 98, 99, 97, 98, 99, 97, 98]
def packed6 : List UInt8 := [8, 97, 98, 99, 0, 130]
def seven : List UInt8 := [97, 97, 97, 97, 97, 97, 97]
theorem pack_abc8 : Prs.pack abc8 = packed6 := by decide +kernel
theorem pack_seven : Prs.pack seven = [2, 97, 0, 3] := by decide +kernel
theorem unpack_seven : Prs.unp 7 0 0 [2, 97, 0, 3] [] = (seven, 0) := by
  have := Prs.unp_pack seven 7 (by decide)
  rw [pack_seven] at this
  exact this

/-- What an answer is, whose row is known. -/
theorem Ans.sl {w0 w : World} {R : List UInt8 × Nat} {e : Ending} (h : Ans w0 R e w) : ∃ bo bc, e = .returned (.tuple #[.slice bo R.1.length bc, .int .i64 R.2]) ∧ Sl w bo R.1 ∧ (∀ a, bo = some a → w0.heap.size ≤ a.block ∧ a.block < w.heap.size ∧ a.spot = none) ∧ R.1.length ≤ bc ∧ Below w0.heap.size w0 w := by
  obtain ⟨bo, bc, rfl, ho, hb⟩ := h
  obtain ⟨h1, h2, _, h4⟩ := own_slc ho
  exact ⟨bo, bc, rfl, h1, h4, h2, hb⟩

theorem fold_push (l : List UInt8) : ∀ (a : List UInt8), (l.map fun x => (x.toNat : Int)).foldl (fun r n => r.push (UInt8.ofNat n.toNat)) (ByteArray.mk a.toArray) = ByteArray.mk (a ++ l).toArray := by
  induction l with
  | nil => intro a; rw [List.append_nil]; rfl
  | cons x l ih =>
    intro a
    simp only [List.map_cons, List.foldl_cons, Int.toNat_natCast]
    have e : (ByteArray.mk a.toArray).push (UInt8.ofNat x.toNat) = ByteArray.mk (a ++ [x]).toArray := by
      have e1 : UInt8.ofNat x.toNat = x := by simp
      rw [e1]
      show ByteArray.mk (a.toArray.push x) = _
      congr 1
      simp
    rw [e, ih (a ++ [x]), List.append_assoc]
    rfl
/-- string(b). -/
theorem conv_str (W : World) (g c : Nat) (xs : List UInt8) (n : Nat) (hn : xs.length = n) (h : Sl W (some ⟨g, 0, none⟩) xs) : (convert 22 9 (.slice (some ⟨g, 0, none⟩) n c)).run Try.prog W = .ok (.string ⟨xs.toArray⟩) W := by
  rw [run_convert_bytes_string (P := Try.prog) W 22 9 5 _ _ _ Try.underlying22 Try.underlying5 Try.underlying9]
  have hl : (loadCells ⟨g, 0, none⟩ n).run Try.prog W = .ok ((xs.map fun x => (x.toNat : Int)).map (Value.int .u8)).toArray W := by
    have := run_loadCells_list (P := Try.prog) W ⟨g, 0, none⟩ (bys xs) (Sl.cells (fun i hi => by obtain ⟨b', off', e', hc⟩ := h i hi; cases e'; exact hc))
    rw [bys_length, hn] at this
    rw [this]
    simp [bys, List.map_map]
  rw [run_bytesToString (P := Try.prog) W ⟨g, 0, none⟩ n c _ hl]
  exact congrArg (fun s => Result.ok (Value.string s) W) (fold_push xs [])

set_option maxHeartbeats 2000000 in
set_option maxRecDepth 100000 in
theorem awake_ok (w : World) : Calls Try.prog 9 #[] w fun e w' => e = .returned (.bool true) ∧ Below w.heap.size w w' := by
  have kc := fun (w : World) (C : Array Value) (n c : Nat) => Lib.run_convert_bytes_const (P := Try.prog) w 22 5 C n c Try.underlying22 Try.underlying5
  have HP : Hid (∀ (W : World), Calls Try.prog 5 #[.slice (some ⟨W.heap.size, 0, none⟩) 8 8] (W.alloc (.cells (bys abc8).toArray 5 (8, 9))) fun e w' => ∃ bo bc, e = .returned (.tuple #[.slice bo 6 bc, .int .i64 0]) ∧ Sl w' bo packed6 ∧ (∀ a, bo = some a → a.block < w'.heap.size) ∧ Below W.heap.size W w') := fun W => by
    have := pack_in (some ⟨W.heap.size, 0, none⟩) 8 8 abc8 _ rfl (by decide) (new_sl W abc8 (8, 9))
    rw [pack_abc8] at this
    refine this.mono fun e w' ha => ?_
    obtain ⟨bo, bc, he, h1, h2, _, h3⟩ := ha.sl
    exact ⟨bo, bc, he, h1, fun a ha => (h2 a ha).2.1, (((Kept.refl [] W).alloc _).below (Nat.le_refl _) (by simp)).trans (Below.less h3 (by simp))⟩
  have HU : Hid (∀ (W : World), Calls Try.prog 6 #[.slice (some ⟨W.heap.size, 0, none⟩) 4 4, .int .i64 7] (W.alloc (.cells (bys [2, 97, 0, 3]).toArray 5)) fun e w' => ∃ g bc, e = .returned (.tuple #[.slice (some ⟨g, 0, none⟩) 7 bc, .int .i64 0]) ∧ Sl w' (some ⟨g, 0, none⟩) seven ∧ Below W.heap.size W w') := fun W => by
    have := unpack_in (some ⟨W.heap.size, 0, none⟩) 4 4 7 [2, 97, 0, 3] _ (by decide) rfl (by decide) (new_sl W [2, 97, 0, 3] (0, 0))
    rw [unpack_seven] at this
    refine this.mono fun e w' ha => ?_
    obtain ⟨bo, bc, he, ho, h3⟩ := ha
    obtain ⟨h1, _, h2, _⟩ := own_slc ho
    obtain ⟨g, off, rfl, _, _⟩ := h1.open (by simp [seven])
    have hoff : off = 0 := by
      rcases ho.2 with ⟨e, _⟩ | ⟨g1, c1, cur, e, _⟩
      · cases e
      · injection e with e _ _; injection e with e; injection e with _ e _
    subst hoff
    exact ⟨g, bc, he, h1, (((Kept.refl [] W).alloc _).below (Nat.le_refl _) (by simp)).trans (Below.less h3 (by simp))⟩
  go_enter Try.func9, Try.ntmps9
  go_wp2_with (first
    | (go_at_call 5; refine (HP.out _).mono ?_; rintro e w1 ⟨bo, bc, rfl, hs1, hlt1, hb1⟩; have H1 : Hid (Sl w1 bo packed6 ∧ (∀ a, bo = some a → a.block < w1.heap.size) ∧ Below w.heap.size w w1) := ⟨hs1, hlt1, hb1⟩; clear hs1 hlt1 hb1 HP)
    | (go_at_call 6; refine (HU.out _).mono ?_; rintro e w2 ⟨g, c2, rfl, hs2, hb2⟩; have H2 : Hid (Sl w2 bo packed6 ∧ Sl w2 (some ⟨g, 0, none⟩) seven ∧ Below w.heap.size w w2) := ⟨Sl.below H1.out.1 hb2 H1.out.2.1, hs2, H1.out.2.2.trans (Below.less hb2 H1.out.2.2.size)⟩; clear hs2 hb2 HU H1)
    | (go_at_call 8; have hk3 : Kept [] w2 (w2.alloc (.cells (bys packed6).toArray 5)) := (Kept.refl [] w2).alloc _; refine (same_any bo (some ⟨w2.heap.size, 0, none⟩) 6 bc 6 6 packed6 packed6 _ rfl rfl (by decide) (H2.out.1.kept hk3 (by simp)) (new_sl w2 packed6 (0, 0))).mono ?_; rintro e w3 ⟨rfl, k3', rfl⟩; have H3 : Hid (Sl ((w2.alloc (.cells (bys packed6).toArray 5)).drewN k3') (some ⟨g, 0, none⟩) seven ∧ Below w.heap.size w ((w2.alloc (.cells (bys packed6).toArray 5)).drewN k3')) := ⟨H2.out.2.1.kept (hk3.drewN k3') (by simp), H2.out.2.2.trans ((hk3.drewN k3').below H2.out.2.2.size (by simp))⟩; clear H2 hk3; generalize (w2.alloc (.cells (bys packed6).toArray 5)).drewN k3' = w4 at H3 ⊢; have kcs := conv_str w4 g c2 seven 7 rfl H3.out.1)
    | go_in)
  go_ret
  exact ⟨rfl, H3.out.2⟩

end Go.Proofs.Ytcgkjdchkpnldab
