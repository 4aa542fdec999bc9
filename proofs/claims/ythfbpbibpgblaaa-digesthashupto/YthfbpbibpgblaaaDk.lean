/-
  Contract: freightlaw2.known.
-/
import Derived.Test.YthfbpbibpgblaaaDf2
import Derived.Test.YthfbpbibpgblaaaDx4
import Derived.Test.YthfbpbibpgblaaaDx6
import Derived.Lib.SlBytesConst
namespace Go.Proofs.Ythfbpbibpgblaaa
open Go.RowKit
set_option linter.unusedVariables false
set_option linter.unusedSimpArgs false

theorem pallet_full : (Sha.full [112, 97, 108, 108, 101, 116]).getD 0 0 = 184 ∧ (Sha.full [112, 97, 108, 108, 101, 116]).getD 1 0 = 144 ∧ (Sha.full [112, 97, 108, 108, 101, 116]).getD 31 0 = 173 := by decide +kernel
theorem sl_alloc (w : World) (xs : List UInt8) (t : TypeId) (fr : Nat × Nat) (g : Nat) (hg : g = w.heap.size) : Sl (w.alloc (.cells (bys xs).toArray t fr)) (some ⟨g, 0, none⟩) xs := by
  subst hg
  refine Sl.of fun i hi => ?_
  rw [Nat.zero_add, World.cell?_alloc_mark]
  simpa using bys_at hi

def pallet : List UInt8 := [112, 97, 108, 108, 101, 116]
theorem ident2 (m : List UInt8) : Sha.ident 2 m = (Sha.full m).take 2 ++ List.replicate 30 0 := rfl
/-- A whole array laid into a new block. -/
theorem laid_new {w w1 : World} {n : Nat} (hB : Below n w w1) (hn : n ≤ w1.heap.size) (Z C : Array Value) (t : TypeId) :
    ((w1.alloc (.cells Z t)).setRow w1.heap.size C).heap[w1.heap.size]? = some (.cells C t (0, 0)) ∧ Below n w ((w1.alloc (.cells Z t)).setRow w1.heap.size C) :=
  ⟨setRow_heap _ _ _ _ _ _ (heap_alloc_new _ _), below_row (hB.alloc hn _) hn _⟩
theorem laid_old {w1 : World} (Z C : Array Value) (t : TypeId) {g : Nat} {o : Obj} (h : w1.heap[g]? = some o) : ((w1.alloc (.cells Z t)).setRow w1.heap.size C).heap[g]? = some o := by
  have hl := (Array.getElem?_eq_some_iff.1 h).1
  rw [setRow_other _ _ _ _ (by omega), heap_alloc_old w1 _ hl]
  exact h
theorem later_old {w1 w2 : World} (hb : Below w1.heap.size w1 w2) {g : Nat} {o : Obj} (h : w1.heap[g]? = some o) : w2.heap[g]? = some o := (hb.block g (Array.getElem?_eq_some_iff.1 h).1).trans h
theorem bys_info (L : List UInt8) (h : L.length = 32) : (bys L).toArray.size = 32 := by rw [List.size_toArray, bys_length, h]
theorem Try.info32b (L : List UInt8) (h : L.length = 32) : (Try.prog.info? 39).map (·.size) = some (bys L).toArray.size := by rw [bys_info L h]; exact Try.info32
theorem Try.infoIDb (L : List UInt8) (h : L.length = 32) : (Try.prog.info? 46).map (·.size) = some (bys L).toArray.size := by rw [bys_info L h]; exact Try.infoID
theorem zero_size (L : List UInt8) (h : L.length = 32) : zero32.size = (bys L).toArray.size := by rw [bys_info L h]; rfl
theorem row_cell {w : World} {g : Nat} {L : List UInt8} {t : TypeId} (h : w.heap[g]? = some (.cells (bys L).toArray t (0, 0))) (i : Nat) (hi : i < L.length) : w.cell? ⟨g, i, none⟩ = some (.int .u8 (L.getD i 0).toNat) := by
  rw [cell_of_row _ _ _ _ _ _ h, List.getElem?_toArray, bys_at hi]

/-- A whole array read under a guard. -/
theorem wpList_load_want {P : Program} {ops : Array Oper} {rest : List Oper} {o : Oper} {a : Act} {w : World} {Q : Exit → Act → World → Prop} (ty : TypeId) (x : Operand) (ho : o.op = .load ty x)
    (g : Nat) (hx : a.eval x = .pointer (some ⟨g, 0, none⟩)) (t : TypeId) (cs : Array Value) (fr : Nat × Nat) (d : TypeDesc) (hg : w.heap[g]? = some (.cells cs t fr))
    (hu : P.underlying ty = some d) (hd : (match d with | .struct _ | .array _ _ => true | _ => false) = true) (hi : (P.info? ty).map (·.size) = some cs.size)
    (hw : Region.wanted o (yielded ops a.tmps) = true) (h : wpList P ops Q rest (a.put o.dst (.agg cs)) w) : wpList P ops Q (o :: rest) a w :=
  BigFrame.wpList_want hw fun _ hK => wp_load_row ty x ho g hx t cs fr d hg hu hd hi (hK _ _ h)

set_option maxHeartbeats 4000000 in
set_option maxRecDepth 100000 in
theorem known_any (w : World) :
    Calls Try.prog 5 #[] w fun e w' => e = .returned (.bool true) ∧ Below w.heap.size w w' := by
  have hz := Try.zeroB32
  have hz2 := Try.zeroID
  have kc := fun (w : World) (C : Array Value) (n c : Nat) => Lib.run_convert_bytes_const (P := Try.prog) w 31 5 C n c Try.underlying31 Try.underlying5
  have kc2 : ∀ (w : World) (o : Obj) (C : Array Value) (n c : Nat), (convert 31 31 (.slice (some ⟨w.heap.size + 1, 0, none⟩) n c)).run Try.prog ((w.alloc o).alloc (.cells C 5)) = .ok (.slice (some ⟨w.heap.size + 1, 0, none⟩) n c) ((w.alloc o).alloc (.cells C 5 (C.size, C.size + 1))) := fun w o C n c => by
    have := kc (w.alloc o) C n c
    rw [World.size_alloc] at this
    exact this
  have kc3 : ∀ (w : World) (o : Obj) (g : Nat) (C0 C : Array Value) (n c : Nat), (convert 31 31 (.slice (some ⟨w.heap.size + 1, 0, none⟩) n c)).run Try.prog (((w.alloc o).setRow g C0).alloc (.cells C 5)) = .ok (.slice (some ⟨w.heap.size + 1, 0, none⟩) n c) (((w.alloc o).setRow g C0).alloc (.cells C 5 (C.size, C.size + 1))) := fun w o g C0 C n c => by
    have := kc ((w.alloc o).setRow g C0) C n c
    rw [size_setRow, World.size_alloc] at this
    exact this
  go_enter Try.func5, Try.ntmps5
  go_wp2_with (fail)
  have h3 := blocks3 w (.cells (bys [112, 97, 108]).toArray 5 (3, 4)) (.cells (bys [108, 101, 116]).toArray 5 (3, 4)) (.cells #[.slice (some ⟨w.heap.size, 0, none⟩) 3 3, .slice (some ⟨w.heap.size + 1, 0, none⟩) 3 3] 31)
  have hB3 : Below w.heap.size w (((w.alloc (.cells (bys [112, 97, 108]).toArray 5 (3, 4))).alloc (.cells (bys [108, 101, 116]).toArray 5 (3, 4))).alloc (.cells #[.slice (some ⟨w.heap.size, 0, none⟩) 3 3, .slice (some ⟨w.heap.size + 1, 0, none⟩) 3 3] 31)) := (((Below.refl _ _).alloc (Nat.le_refl _) _).alloc (by simp) _).alloc (by simp; omega) _
  have eb1 : (#[.int .u8 112, .int .u8 97, .int .u8 108] : Array Value) = (bys [112, 97, 108]).toArray := rfl
  have eb2 : (#[.int .u8 108, .int .u8 101, .int .u8 116] : Array Value) = (bys [108, 101, 116]).toArray := rfl
  rw [eb1, eb2]
  clear eb1 eb2
  generalize World.alloc _ _ = w1 at h3 hB3 ⊢
  have hpc : Pcs w1 (some ⟨w.heap.size + 1 + 1, 0, none⟩) [⟨some ⟨w.heap.size, 0, none⟩, 3, [112, 97, 108]⟩, ⟨some ⟨w.heap.size + 1, 0, none⟩, 3, [108, 101, 116]⟩] := by
    have c : ∀ (g : Nat) (L : List UInt8), w1.heap[g]? = some (.cells (bys L).toArray 5 (3, 4)) → Sl w1 (some ⟨g, 0, none⟩) L := fun g L h => Sl.of fun i hi => by
      rw [Nat.zero_add, cell_of_row _ _ _ _ _ _ h, List.getElem?_toArray, bys_at hi]
    intro i hi
    refine ⟨_, _, rfl, ?_⟩
    have hi2 : i < 2 := hi
    rcases i with _ | _ | i
    · exact ⟨by rw [cell_of_row _ _ _ _ _ _ h3.2.2]; rfl, c _ _ h3.1, by show 3 ≤ 3; omega⟩
    · exact ⟨by rw [cell_of_row _ _ _ _ _ _ h3.2.2]; rfl, c _ _ h3.2.1, by show 3 ≤ 3; omega⟩
    · omega
  refine (full_ok _ 2 _ w1 (by show 2 ≤ _; omega) hpc (by show 6 < _; omega) 2 rfl).mono ?_
  rintro e w2 ⟨rfl, hb2⟩
  have hB2 : Below w.heap.size w w2 := hB3.trans (hb2.mono hB3.size)
  clear hpc h3 hB3 hb2
  have ej : joined [⟨some ⟨w.heap.size, 0, none⟩, 3, [112, 97, 108]⟩, ⟨some ⟨w.heap.size + 1, 0, none⟩, 3, [108, 101, 116]⟩] = pallet := rfl
  rw [ej]
  clear ej
  obtain ⟨F, hF⟩ : ∃ F, F = Sha.full pallet := ⟨_, rfl⟩
  have hFl : F.length = 32 := by rw [hF]; exact Sha.full_len _
  have HF : Hid (F = Sha.full pallet) := hF
  rw [← hF]
  clear hF
  have hl2 := laid_new hB2 hB2.size zero32 (bys F).toArray 39
  have hif := Try.info32b F hFl
  have hzf := zero_size F hFl
  have hof := bys_all F
  go_wp2_with (refine wpList_store_rowTo rfl 39 (.tmp 1) (.tmp 10) rfl rfl w2.heap.size (bys F).toArray rfl rfl 39 zero32 (heap_alloc_new _ _) hif hzf hof ?_)
  clear kc kc2 kc3 hif hzf hof hz
  have hs3 : ((w2.alloc (.cells zero32 39)).setRow w2.heap.size (bys F).toArray).heap.size = w2.heap.size + 1 := by rw [size_setRow, World.size_alloc]
  generalize (w2.alloc _).setRow _ _ = w3 at hl2 hs3 ⊢
  rw [← hs3]
  obtain ⟨hF3, hB3⟩ := hl2
  have ep : (#[.int .u8 112, .int .u8 97, .int .u8 108, .int .u8 108, .int .u8 101, .int .u8 116] : Array Value) = (bys pallet).toArray := rfl
  rw [ep]
  clear ep
  have ho4 := heap_alloc2_old w3 (.cells (bys pallet).toArray 5 (6, 7)) (.cells #[.slice (some ⟨w3.heap.size, 0, none⟩) 6 6] 31)
  have hn4 := heap_alloc2_new w3 (.cells (bys pallet).toArray 5 (6, 7)) (.cells #[.slice (some ⟨w3.heap.size, 0, none⟩) 6 6] 31)
  have hk4 : Below w3.heap.size w3 ((w3.alloc (.cells (bys pallet).toArray 5 (6, 7))).alloc (.cells #[.slice (some ⟨w3.heap.size, 0, none⟩) 6 6] 31)) := ((Below.refl _ _).alloc (Nat.le_refl _) _).alloc (by simp) _
  generalize (w3.alloc _).alloc _ = w4 at ho4 hn4 hk4 ⊢
  have hpc : Pcs w4 (some ⟨w3.heap.size + 1, 0, none⟩) [⟨some ⟨w3.heap.size, 0, none⟩, 6, pallet⟩] := by
    intro i hi
    have hi2 : i < 1 := hi
    obtain rfl : i = 0 := by omega
    refine ⟨_, _, rfl, by rw [cell_of_row _ _ _ _ _ _ hn4]; rfl, Sl.of fun j hj => ?_, by show 6 ≤ 6; omega⟩
    rw [Nat.zero_add, cell_of_row _ _ _ _ _ _ ho4, List.getElem?_toArray]
    exact bys_at hj
  refine (of_ok 2 _ 1 _ w4 (by show 1 ≤ _; omega) hpc (by show 6 < _; omega) 1 rfl).mono ?_
  rintro e w5 ⟨rfl, hb5⟩
  have hB4 : Below w.heap.size w w4 := hB3.trans (hk4.mono hB3.size)
  have hB5 : Below w.heap.size w w5 := hB4.trans (hb5.mono hB4.size)
  have hF5 := later_old hb5 (later_old hk4 hF3)
  clear hpc ho4 hn4 hk4 hb5 hB4 hB3 hF3
  have ej : joined [⟨some ⟨w3.heap.size, 0, none⟩, 6, pallet⟩] = pallet := rfl
  rw [ej]
  clear ej
  obtain ⟨I, hI⟩ : ∃ I, I = Sha.ident 2 pallet := ⟨_, rfl⟩
  have hIl : I.length = 32 := by rw [hI]; exact Sha.ident_len _ _
  have HI : Hid (I = Sha.ident 2 pallet) := hI
  rw [← hI]
  clear hI hs3
  obtain ⟨f, hf⟩ : ∃ f, f = w2.heap.size := ⟨_, rfl⟩
  rw [← hf] at hF5 ⊢
  clear hf
  have hl5 := laid_new hB5 hB5.size zero32 (bys I).toArray 46
  have hF6 := laid_old zero32 (bys I).toArray 46 hF5
  have hif := Try.infoIDb I hIl
  have hzf := zero_size I hIl
  have hof := bys_all I
  go_wp2_with (first | refine wpList_store_rowTo rfl 46 (.tmp 2) (.tmp 14) rfl rfl w5.heap.size (bys I).toArray rfl rfl 46 zero32 (heap_alloc_new _ _) hif hzf hof ?_ | refine wpList_load_row rfl 46 (.tmp 2) rfl w5.heap.size rfl 46 _ (0, 0) _ hl5.1 Try.underlying46 rfl hif ?_)
  obtain ⟨d, hd⟩ : ∃ d, d = w5.heap.size := ⟨_, rfl⟩
  generalize (w5.alloc _).setRow _ _ = w6 at hl5 hF6 ⊢
  rw [← hd] at hl5 ⊢
  obtain ⟨hI6, hB6⟩ := hl5
  clear hd hF5 hB5
  refine (hex_ok I hIl _).mono ?_
  rintro e w7 ⟨rfl, hb7⟩
  have hI7 := later_old hb7 hI6
  have hF7 := later_old hb7 hF6
  have hB7 := hB6.trans (hb7.mono hB6.size)
  clear hI6 hF6 hB6 hb7
  go_wp2_with (fail)
  refine (parse_ok (hex I) _).mono ?_
  rintro e w8 ⟨rfl, hb8⟩
  have hI8 := later_old hb8 hI7
  have hF8 := later_old hb8 hF7
  have hB8 := hB7.trans (hb8.mono hB7.size)
  clear hI7 hF7 hB7 hb8
  rw [parsed_hex I hIl]
  dsimp only
  have hl8 := laid_new hB8 hB8.size zero32 (bys I).toArray 46
  have hF9 := laid_old zero32 (bys I).toArray 46 hF8
  have hI9 := laid_old zero32 (bys I).toArray 46 hI8
  have hp := pallet_full
  have H0 := HF.out
  have f0 := row_cell hF9 0 (by omega)
  have f1 := row_cell hF9 1 (by omega)
  have f31 := row_cell hF9 31 (by omega)
  rw [HF.out] at f0 f1 f31
  rw [show (Sha.full pallet).getD 0 0 = 184 from hp.1] at f0
  rw [show (Sha.full pallet).getD 1 0 = 144 from hp.2.1] at f1
  rw [show (Sha.full pallet).getD 31 0 = 173 from hp.2.2] at f31
  have i0 := row_cell hI9 0 (by omega)
  have i1 := row_cell hI9 1 (by omega)
  have i2 := row_cell hI9 2 (by omega)
  have hi0 : I.getD 0 0 = 184 := by rw [HI.out, ident2]; exact hp.1
  have hi1 : I.getD 1 0 = 144 := by rw [HI.out, ident2]; exact hp.2.1
  have hi2 : I.getD 2 0 = 0 := by rw [HI.out, ident2]; rfl
  rw [hi0] at i0
  rw [hi1] at i1
  rw [hi2] at i2
  have heq : ∀ W, (Op.equalIn 10000 46 (.agg (bys I).toArray) (.agg (bys I).toArray)).run Try.prog W = .ok true W := fun W => by rw [Try.eqlID I I hIl hIl W, decide_eq_true rfl]
  have hgd : Try.prog.eqGuardType Try.prog.depth 46 = false := by kernel_rfl
  replace f0 : ((w8.alloc (.cells zero32 46)).setRow w8.heap.size (bys I).toArray).cell? ⟨f, 0, none⟩ = some (.int .u8 184) := f0
  replace f1 : ((w8.alloc (.cells zero32 46)).setRow w8.heap.size (bys I).toArray).cell? ⟨f, 1, none⟩ = some (.int .u8 144) := f1
  replace f31 : ((w8.alloc (.cells zero32 46)).setRow w8.heap.size (bys I).toArray).cell? ⟨f, 31, none⟩ = some (.int .u8 173) := f31
  replace i0 : ((w8.alloc (.cells zero32 46)).setRow w8.heap.size (bys I).toArray).cell? ⟨d, 0, none⟩ = some (.int .u8 184) := i0
  replace i1 : ((w8.alloc (.cells zero32 46)).setRow w8.heap.size (bys I).toArray).cell? ⟨d, 1, none⟩ = some (.int .u8 144) := i1
  replace i2 : ((w8.alloc (.cells zero32 46)).setRow w8.heap.size (bys I).toArray).cell? ⟨d, 2, none⟩ = some (.int .u8 0) := i2
  have HB9 : Hid (Below w.heap.size w ((w8.alloc (.cells zero32 46)).setRow w8.heap.size (bys I).toArray)) := hl8.2
  have hp9 := hl8.1
  clear hp H0 hi0 hi1 hi2 hl8 hF9 hI8 hF8 hB8 hB2 HF HI hFl
  go_wp2_with (first | refine wpList_store_rowTo rfl 46 (.tmp 3) (.tmp 19) rfl rfl w8.heap.size (bys I).toArray rfl rfl 46 zero32 (heap_alloc_new _ _) hif hzf hof ?_ | refine wpList_load_want 46 (.tmp 3) rfl w8.heap.size rfl 46 _ (0, 0) _ hp9 Try.underlying46 rfl hif (by kernel_rfl) ?_ | refine wpList_load_want 46 (.tmp 2) rfl d rfl 46 _ (0, 0) _ hI9 Try.underlying46 rfl hif (by kernel_rfl) ?_)
  go_ret
  exact ⟨rfl, HB9.out⟩
end Go.Proofs.Ythfbpbibpgblaaa
