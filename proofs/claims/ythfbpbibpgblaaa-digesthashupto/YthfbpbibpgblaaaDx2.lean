/-
  Contracts: digest.Hex, freightref2.Hex.
-/
import Derived.Test.YthfbpbibpgblaaaDx1
import Derived.Laws.BytesString
import Derived.Laws.Concat
namespace Go.Proofs.Ythfbpbibpgblaaa
open Go.RowKit
set_option linter.unusedVariables false
set_option linter.unusedSimpArgs false

def digs : List UInt8 := [48, 49, 50, 51, 52, 53, 54, 55, 56, 57, 97, 98, 99, 100, 101, 102]
def hexD (n : Nat) : UInt8 := digs.getD n 0
/-- An id in hex. -/
def hex (id : List UInt8) : List UInt8 := id.flatMap fun b => [hexD (b.toNat / 16), hexD (b.toNat % 16)]
theorem hex_len (id : List UInt8) : (hex id).length = 2 * id.length := by
  induction id with
  | nil => rfl
  | cons b l ih =>
    simp only [hex, List.flatMap_cons, List.length_append, List.length_cons, List.length_nil] at ih ⊢
    omega
theorem hex_snoc (l : List UInt8) (b : UInt8) : hex (l ++ [b]) = hex l ++ [hexD (b.toNat / 16), hexD (b.toNat % 16)] := by simp [hex]
theorem hex_take (id : List UInt8) (k : Nat) (h : k < id.length) : hex (id.take (k + 1)) = hex (id.take k) ++ [hexD ((id.getD k 0).toNat / 16), hexD ((id.getD k 0).toNat % 16)] := by
  rw [List.take_succ_eq_append_getElem h, hex_snoc]
  simp [List.getElem?_eq_getElem h]

theorem Try.digitAt (n : Nat) (hn : n < 16) (W : World) : (Instr.index 9 (.string { data := #[48, 49, 50, 51, 52, 53, 54, 55, 56, 57, 97, 98, 99, 100, 101, 102] }) (.int .u8 n)).run Try.prog W = .ok (.int .u8 (hexD n).toNat) W := by
  rcases n with _ | _ | _ | _ | _ | _ | _ | _ | _ | _ | _ | _ | _ | _ | _ | _ | n
  all_goals first | omega | kernel_rfl
theorem Try.digitCut (n : Nat) (hn : n < 16) (W : World) : (Instr.slice 9 (.string { data := #[48, 49, 50, 51, 52, 53, 54, 55, 56, 57, 97, 98, 99, 100, 101, 102] }) (some (.int .i64 n)) (some (.int .i64 (n + 1 : Nat))) none).run Try.prog W = .ok (.string ⟨[hexD n].toArray⟩) W := by
  rcases n with _ | _ | _ | _ | _ | _ | _ | _ | _ | _ | _ | _ | _ | _ | _ | _ | n
  all_goals first | omega | kernel_rfl

def zeroT : Array Value := (bys (List.replicate 64 0)).toArray
theorem Try.zeroText (W : World) : (zeroValue 26).run Try.prog W = .ok (.agg zeroT) W := by kernel_rfl
theorem Try.slice64all (W : World) (b : Nat) :
    (Instr.sliceAt 26 (.pointer (some ⟨b, 0, none⟩)) none none none).run Try.prog W = .ok (.slice (some ⟨b, 0, none⟩) 64 64) W := by
  have ha : Try.prog.arrayLen 26 = 64 := by kernel_rfl
  have hz : (sizeOf (Try.prog.elem 26)).run Try.prog W = .ok 1 W := by kernel_rfl
  have h := run_sliceAt_array_all (P := Try.prog) W 26 ⟨b, 0, none⟩ (by kernel_rfl)
  rw [h, hz, ha]
  simp [slicedAt, Addr.add_mid]

theorem fold_push (l : List UInt8) : ∀ (a : List UInt8), (l.map fun x => (x.toNat : Int)).foldl (fun r n => r.push (UInt8.ofNat n.toNat)) (ByteArray.mk a.toArray) = ByteArray.mk (a ++ l).toArray := by
  induction l with
  | nil => intro a; rw [List.append_nil]; rfl
  | cons x l ih =>
    intro a
    simp only [List.map_cons, List.foldl_cons, Int.toNat_natCast]
    have e : (ByteArray.mk a.toArray).push (UInt8.ofNat x.toNat) = ByteArray.mk (a ++ [x]).toArray := by
      have e1 : UInt8.ofNat x.toNat = x := by simp
      rw [e1]
      show ByteArray.mk (a.toArray.push x) = _
      congr 1
      simp
    rw [e, ih (a ++ [x]), List.append_assoc]
    rfl
theorem run_string_of {w : World} (b : Nat) (L : List UInt8) (hL : L.length = 64) (h : w.rangeAt b 0 (bys L)) :
    (convert 31 9 (.slice (some ⟨b, 0, none⟩) 64 64)).run Try.prog w = .ok (.string ⟨L.toArray⟩) w := by
  rw [run_convert_bytes_string (P := Try.prog) w 31 9 5 _ _ _ Try.underlying31 Try.underlying5 Try.underlying9]
  have hl : (loadCells ⟨b, 0, none⟩ 64).run Try.prog w = .ok ((L.map fun x => (x.toNat : Int)).map (Value.int .u8)).toArray w := by
    have := run_loadCells_list (P := Try.prog) w ⟨b, 0, none⟩ (bys L) (fun j v hv => by rw [Addr.add_mid]; exact h j v hv)
    rw [bys_length, hL] at this
    rw [this]
    simp [bys, List.map_map]
  rw [run_bytesToString (P := Try.prog) w ⟨b, 0, none⟩ 64 64 _ hl]
  exact congrArg (fun s => Result.ok (Value.string s) w) (fold_push L [])

/-- What holds while the text is made. -/
structure Txt (w wr : World) (B : Nat) (A : List UInt8) : Prop where
  arr : wr.heap[B]? = some (.cells (bys A).toArray 26 (0, 0))
  len : A.length = 64
  below : Below w.heap.size w wr
  ps : w.heap.size ≤ B
theorem Txt.cell {w wr : World} {B : Nat} {A : List UInt8} (h : Txt w wr B A) (i : Nat) (hi : i < 64) : wr.cell? ⟨B, i, none⟩ = some (.int .u8 (A.getD i 0).toNat) := by
  rw [cell_of_row _ _ _ _ _ _ h.arr, List.getElem?_toArray, bys_at (by rw [h.len]; exact hi)]
theorem Txt.frozen {w wr : World} {B : Nat} {A : List UInt8} (h : Txt w wr B A) (i : Nat) : wr.frozen? ⟨B, i, none⟩ = false := frozen_of_row _ _ _ _ _ h.arr
theorem Txt.set {w wr : World} {B : Nat} {A : List UInt8} (h : Txt w wr B A) (i : Nat) (v : UInt8) : Txt w (wr.setCell ⟨B, i, none⟩ (.int .u8 v.toNat)) B (A.set i v) := by
  have := h.ps
  refine ⟨?_, by simp [h.len], ?_, h.ps⟩
  · rw [heap_setCell_same _ _ _ _ _ _ h.arr, List.setIfInBounds_toArray, bys_set]
  · exact ⟨h.below.os, h.below.tape, h.below.output, by rw [World.size_setCell]; exact h.below.size, fun k hk => (heap_setCell_other _ _ _ _ (by show k ≠ B; omega)).trans (h.below.block k hk)⟩

theorem two_set (X : List UInt8) (n : Nat) (a b : UInt8) (hn : 2 ≤ n) : ((X ++ List.replicate n 0).set X.length a).set (X.length + 1) b = (X ++ [a, b]) ++ List.replicate (n - 2) 0 := by
  obtain ⟨m, rfl⟩ := Nat.exists_eq_add_of_le' hn
  rw [List.set_append_right _ _ (Nat.le_refl _), Nat.sub_self, List.set_append_right _ _ (by omega), show X.length + 1 - X.length = 1 by omega, show m + 2 = m + 1 + 1 by omega, List.replicate_succ, List.replicate_succ]
  simp

set_option maxHeartbeats 400000 in
set_option maxRecDepth 100000 in
theorem hex_ok (id : List UInt8) (hid : id.length = 32) (w : World) :
    Calls Try.prog 15 #[.agg (bys id).toArray] w fun e w' => e = .returned (.string ⟨(hex id).toArray⟩) ∧ Below w.heap.size w w' := by
  have hz := Try.zeroText
  have hb0 := heap_alloc2_old w (.cells (bys id).toArray 46) (.cells zeroT 26)
  obtain ⟨B, hB⟩ : ∃ r, r = w.heap.size + 1 := ⟨_, rfl⟩
  have HI : Hid (Txt w ((w.alloc (.cells (bys id).toArray 46)).alloc (.cells zeroT 26)) B (hex (id.take 0) ++ List.replicate (64 - 2 * 0) 0)) := by
    rw [hB]
    exact ⟨heap_alloc2_new _ _ _, by simp [hex], ((Below.refl _ _).alloc (Nat.le_refl _) _).alloc (by simp) _, by omega⟩
  have hinf : (Try.prog.info? 46).map (·.size) = some (bys id).toArray.size := by rw [List.size_toArray, bys_length, hid]; exact Try.infoID
  go_enter Try.func15, Try.ntmps15
  go_wp2_with (refine wpList_load_row rfl 46 (.tmp 1) rfl w.heap.size rfl 46 _ (0, 0) _ hb0 Try.underlying46 rfl hinf ?_)
  rw [← hB]
  clear hb0 hB hinf hz
  generalize (w.alloc _).alloc _ = w1 at HI ⊢
  go_loopw [4, 5, 7] (fun _ _ i wr => ∃ k : Nat, k ≤ 32 ∧ i = .int .i64 k ∧ Hid (Txt w wr B (hex (id.take k) ++ List.replicate (64 - 2 * k) 0))) (fun _ _ i wr => 32 - (intOf i).toNat)
  case atStart => exact ⟨0, by omega, rfl, HI⟩
  case round =>
    clear HI
    obtain ⟨k, hk, rfl, HR⟩ := hrel
    by_cases hlt : k < 32
    · have hx := fun W => Try.indexID id hid k hlt W
      have HX := hex_take id k (by omega)
      have hxl : (hex (id.take k)).length = 2 * k := by rw [hex_len, List.length_take]; omega
      have hb := (id.getD k 0).toNat_lt
      generalize (id.getD k 0).toNat = x at hx HX hb
      obtain ⟨h, hh⟩ : ∃ h, h = x / 16 := ⟨_, rfl⟩
      obtain ⟨l, hl⟩ : ∃ h, h = x % 16 := ⟨_, rfl⟩
      have eh : (x : Int) / 16 = h := by omega
      have el : bits .and .u8 (x : Int) 15 = l := by
        have := u8_and_nat x 15 (by omega) (by omega)
        rw [nat_mask4] at this
        rw [hl]; exact this
      have hdh := fun W => Try.digitAt h (by omega) W
      have hdl := fun W => Try.digitAt l (by omega) W
      rw [← hh, ← hl] at HX
      obtain ⟨j0, hj0⟩ : ∃ j, j = 2 * k := ⟨_, rfl⟩
      obtain ⟨j1, hj1⟩ : ∃ j, j = 2 * k + 1 := ⟨_, rfl⟩
      have e0 : 2 * (k : Int) = j0 := by omega
      have e1 : (j0 : Int) + 1 = j1 := by omega
      have l0 : (j0 : Int) < 64 := by omega
      have l1 : (j1 : Int) < 64 := by omega
      have c0 := HR.out.cell j0 (by omega)
      have c1 := HR.out.cell j1 (by omega)
      have f0 := HR.out.frozen j0
      have f1 := HR.out.frozen j1
      have n01 : j0 ≠ j1 := by omega
      have HS : Hid (Txt w ((wr.setCell ⟨B, j0, none⟩ (.int .u8 (hexD h).toNat)).setCell ⟨B, j1, none⟩ (.int .u8 (hexD l).toNat)) B (hex (id.take (k + 1)) ++ List.replicate (64 - 2 * (k + 1)) 0)) := by
        have h1 := (HR.out.set j0 (hexD h)).set j1 (hexD l)
        have h2 : ((hex (id.take k) ++ List.replicate (64 - 2 * k) 0).set j0 (hexD h)).set j1 (hexD l) = hex (id.take (k + 1)) ++ List.replicate (64 - 2 * (k + 1)) 0 := by
          have h3 := two_set (hex (id.take k)) (64 - 2 * k) (hexD h) (hexD l) (by omega)
          rw [hxl] at h3
          rw [hj0, hj1, h3, HX, show 64 - 2 * k - 2 = 64 - 2 * (k + 1) by omega]
        rw [h2] at h1
        exact h1
      clear HX HR hxl hh hl hj0 hj1
      generalize (hex (id.take k) ++ List.replicate (64 - 2 * k) 0).getD j0 0 = o0 at c0
      generalize (hex (id.take k) ++ List.replicate (64 - 2 * k) 0).getD j1 0 = o1 at c1
      go_wp2
      go_roundw
      case rel => exact ⟨k + 1, by omega, by go_num, HS⟩
      case measure => simp [intOf]; omega
    · obtain rfl : k = 32 := by omega
      have hall : hex (id.take 32) ++ List.replicate (64 - 2 * 32) 0 = hex id := by
        rw [List.take_of_length_le (by omega)]; simp
      rw [hall] at HR
      have hs := fun W => Try.slice64all W B
      have hcv := run_string_of (w := wr) B (hex id) (by rw [hex_len, hid]) (fun j v hv => by rw [Nat.zero_add, cell_of_row _ _ _ _ _ _ HR.out.arr, List.getElem?_toArray]; exact hv)
      have HB : Hid (Below w.heap.size w wr) := HR.out.below
      clear HR hall
      go_wp2
      go_ret
      exact ⟨rfl, HB.out⟩

end Go.Proofs.Ythfbpbibpgblaaa
