/-
  Contracts: maps.Clone, directory.sync, directory.crash. (Written by tools/gr.py.)
-/
import Derived.Test.YtemlbmamcbmnjaaGreatDoorGqp
import Derived.Laws.Externs
import Derived.MapKept
import Derived.WalkSpells
namespace Go.Proofs.YtemlbmamcbmnjaaGreatDoor
open Go.RowKit Dsk
set_option linter.unusedVariables false
set_option linter.unusedSimpArgs false

theorem run_assert_map {P : Program} (w : World) (t xT k e : TypeId) (v : Value) (h : P.underlying t = some (.map k e)) : (Instr.typeAssert (.iface t v) xT t false).run P w = .ok v w := by
  simp [Instr.typeAssert, run_underlying h, go_sem, Result.andThen]
theorem run_clone_ext {P : Program} (w : World) {r : Nat} {es : Array MapEntry} {clock : Nat} (t : TypeId) (hb : w.heap[r]? = some (.map es clock)) :
    (Extern.MapsClone.clone #[.iface t (.map (some r))]).run P w = .ok (.iface t (.map (some w.heap.size))) (w.alloc (.map es clock)) := by
  have e : Extern.MapsClone.clone #[.iface t (.map (some r))] = (getObj r >>= fun o => match o with
      | .map entries clock => (newObj (.map entries clock) >>= fun n => pure (.iface t (.map (some n))))
      | _ => stuck "maps.clone: a map expected") := rfl
  rw [e]
  simp [MapKept.run_getObj_map hb, Result.andThen, go_sem]

set_option maxHeartbeats 800000 in
set_option maxRecDepth 100000 in
theorem mapsClone_ok (b : Nat) (A : Nat → Nat) (l : Nm) (w : World) (h : Mp w b A l) :
    Calls Tryz.prog 111 #[.map (some b)] w fun e w' => e = .returned (.map (some w.heap.size)) ∧ Mp w' w.heap.size A l ∧ Kept [] w w' ∧ w'.heap.size = w.heap.size + 1 := by
  obtain ⟨es, clock, hb, hF⟩ := h
  have hq := fun w => run_eql_map_nil (P := Tryz.prog) w 92 _ _ (some b) Tryz.underlying92
  go_enter Tryz.func111, Tryz.ntmps111
  go_wp2
  rw [run_callFunc_extern Tryz.func129 (by kernel_rfl) (by kernel_rfl) (by kernel_rfl) (e := Extern.MapsClone.clone) (by kernel_rfl), run_clone_ext w 92 hb]
  simp only [Result.andThen]
  rw [Oper.upon_value]
  go_wp2
  rw [run_assert_map _ 92 20 9 _ _ Tryz.underlying92]
  simp only [Result.andThen]
  rw [Oper.upon_value]
  go_wp2
  go_ret
  exact ⟨rfl, ⟨es, clock, (MapKept.heap_alloc w _).1, hF⟩, (Kept.refl [] w).alloc _, by simp⟩

/-- Behind directory.sync. -/
def DirSynced (w w' : World) (q off b : Nat) (T : TypeId) (cs : Array Value) (A : Nat → Nat) (l : Nm) : Prop :=
  ∃ nb, w'.heap[q]? = some (.cells ((cs.setIfInBounds off (.map (some nb))).setIfInBounds (off + 1) (.slice none 0 0)) T (0, 0)) ∧ Mp w' nb A l ∧ Mp w' b A l ∧ Keep (· = q) w w' ∧ w.heap.size ≤ nb

set_option maxHeartbeats 800000 in
set_option maxRecDepth 100000 in
theorem dirSync_ok (q off b : Nat) (T : TypeId) (cs : Array Value) (A : Nat → Nat) (l : Nm) (w : World) (hQ : w.heap[q]? = some (.cells cs T (0, 0))) (hsz : off + 2 < cs.size) (hq2 : cs[off + 2]? = some (.map (some b))) (h : Mp w b A l) :
    Calls Tryz.prog 98 #[.pointer (some ⟨q, off, none⟩)] w fun e w' => e = .returned (.tuple #[]) ∧ DirSynced w w' q off b T cs A l := by
  have hbq : b ≠ q := map_ne h hQ (by simp)
  have hqlt : q < w.heap.size := (Array.getElem?_eq_some_iff.1 hQ).1
  have c2 : w.cell? ⟨q, off + 2, none⟩ = some (.map (some b)) := by rw [cell_of_row w q (off + 2) _ _ _ hQ]; exact hq2
  have hcl := mapsClone_ok b A l w h
  obtain ⟨v0, hv0⟩ : ∃ v, cs[off]? = some v := ⟨cs[off], Array.getElem?_eq_getElem (by omega)⟩
  obtain ⟨v1, hv1⟩ : ∃ v, cs[off + 1]? = some v := ⟨cs[off + 1], Array.getElem?_eq_getElem (by omega)⟩
  have HQ := hide hQ
  have HM := hide h
  clear hQ h hq2
  go_enter Tryz.func98, Tryz.ntmps98
  go_wp2_with (go_at_call 111; have Ha := hcl; refine hcl.mono ?_; rintro e w1 ⟨rfl, hM1, hK1, hs1⟩; have hQ1 : w1.heap[q]? = some (.cells cs T (0, 0)) := (hK1.block q hqlt (by simp)).trans HQ.out; have d0 : w1.cell? ⟨q, off, none⟩ = some v0 := (by rw [cell_of_row w1 q off _ _ _ hQ1]; exact hv0); have f0 : w1.frozen? ⟨q, off, none⟩ = false := frozen_of_row w1 q off _ _ hQ1; have HN := hide (And.intro hM1 (And.intro hK1 hQ1)); have hQ2 := heap_setCell_same w1 q off cs T (.map (some w.heap.size)) hQ1; have d1 : (w1.setCell ⟨q, off, none⟩ (.map (some w.heap.size))).cell? ⟨q, off + 1, none⟩ = some v1 := (by rw [cell_of_row _ q (off + 1) _ _ _ hQ2, Array.getElem?_setIfInBounds_ne (by omega)]; exact hv1); have f1 : (w1.setCell ⟨q, off, none⟩ (.map (some w.heap.size))).frozen? ⟨q, off + 1, none⟩ = false := frozen_of_row _ q (off + 1) _ _ hQ2; have HQ2 := hide hQ2; clear hM1 hK1 hQ1 hQ2 Ha hcl)
  first | refine bodyPost_end (results_none rfl _ _ _) rfl ?_ | refine bodyPost_ret (results_none rfl _ _ _) rfl ?_
  obtain ⟨hM1, hK1, hQ1⟩ := HN.out
  have hK2 : Keep (· = q) w1 ((w1.setCell ⟨q, off, none⟩ (.map (some w.heap.size))).setCell ⟨q, off + 1, none⟩ (.slice none 0 0)) := ((Keep.refl (· = q) w1).setCell (p := ⟨q, off, none⟩) (fun _ => rfl) _).setCell (p := ⟨q, off + 1, none⟩) (fun _ => rfl) _
  refine ⟨rfl, w.heap.size, heap_setCell_same _ q (off + 1) _ T _ HQ2.out, hM1.keep hK2 (by show ¬ w.heap.size = q; omega), ((HM.out.keep (F := fun _ => False) ⟨hK1.os, hK1.tape, hK1.output, hK1.size, fun k hk _ => hK1.block k hk (by simp)⟩ (fun h => h)).keep hK2 hbq), (Keep.ofNone hK1).trans hK2 (fun i e _ => e), Nat.le_refl _⟩


theorem Tryz.cutNc (W : World) (ao : Option Addr) (L cap m : Nat) (hm : m ≤ cap) :
    (Instr.slice 93 (.slice ao L cap) none (some (.int .i64 m)) none).run Tryz.prog W = .ok (.slice ao m cap) W := by
  have hz : (sizeOf (Tryz.prog.elem 93)).run Tryz.prog W = .ok 1 W := by kernel_rfl
  have h := run_slice_h (P := Tryz.prog) W 93 ao L cap (by kernel_rfl) .i64 m (by omega) (by omega)
  rw [h, hz]
  cases ao <;> simp [sliced, Addr.add]

/-- Behind directory.crash. -/
def DirCrashed (w w' : World) (q off : Nat) (T : TypeId) (cs : Array Value) (A : Nat → Nat) (l : Nm) : Prop :=
  ∃ m1 m2, w'.heap[q]? = some (.cells (((cs.setIfInBounds (off + 2) (.map (some m1))).setIfInBounds off (.map (some m2))).setIfInBounds (off + 1) (.slice none 0 0)) T (0, 0)) ∧ Mp w' m2 A l ∧ Mp w' m1 A l ∧ Keep (· = q) w w' ∧ w.heap.size ≤ m1 ∧ w.heap.size ≤ m2 ∧ m2 ≠ m1
/-- In the loop. -/
structure DirOn (w wr : World) (q off m1 : Nat) (T : TypeId) (cs : Array Value) (rv : Value) (A : Nat → Nat) (row : List Nc) (l : Nm) : Prop where
  cells : wr.heap[q]? = some (.cells (cs.setIfInBounds (off + 2) (.map (some m1))) T (0, 0))
  mp : Mp wr m1 A l
  row : wr.ownsRow 0 180 1 rv row.length (row.map (encNc A))
  keep : Keep (· = q) w wr
  ge : w.heap.size ≤ m1
theorem DirOn.step {w wr wr' : World} {q off m1 : Nat} {T : TypeId} {cs : Array Value} {rv : Value} {A : Nat → Nat} {row : List Nc} {l l' : Nm} (h : DirOn w wr q off m1 T cs rv A row l) (hq : q < w.heap.size) (hM : Mp wr' m1 A l') (hK : Keep (· = m1) wr.drew wr') : DirOn w wr' q off m1 T cs rv A row l' := by
  have hK' : Keep (· = m1) wr wr' := ⟨hK.os, hK.tape, hK.output, hK.size, hK.block⟩
  have hge := h.ge
  refine ⟨hK'.heapOf h.cells (by show ¬ q = m1; omega), hM, own_keeps h.row hK' (fun g hg e => own_nmap h.row h.mp.blk (by rw [hg, e])), h.keep.trans hK' (fun i e hi => by omega), h.ge⟩

set_option maxHeartbeats 1600000 in
set_option maxRecDepth 100000 in
theorem dirCrash_ok (p : Int) (q off a : Nat) (T : TypeId) (cs : Array Value) (rv : Value) (A : Nat → Nat) (l : Nm) (row : List Nc) (w : World) (hQ : w.heap[q]? = some (.cells cs T (0, 0))) (hT : T ≠ 180) (hsz : off + 2 < cs.size) (hq0 : cs[off]? = some (.map (some a))) (hq1 : cs[off + 1]? = some rv)
    (hrow : w.ownsRow 0 180 1 rv row.length (row.map (encNc A))) (h : Mp w a A l) (hup : l.Up) (hok : okN l row) (hs : ∀ c ∈ row, ncShort c) (hl : l.length + row.length < 1073741824) (hp : (Lit.int .i64 p).wf = true) :
    Calls Tryz.prog 68 #[.pointer (some ⟨q, off, none⟩), .int .i64 p] w fun e w' => e = .returned (.tuple #[]) ∧ DirCrashed w w' q off T cs A (Dsk.runN l (row.take (rnd p row.length))) := by
  obtain ⟨ro, rc, rfl, hrc⟩ := own_shape hrow
  have hqlt : q < w.heap.size := (Array.getElem?_eq_some_iff.1 hQ).1
  have haq : a ≠ q := map_ne h hQ (by simp)
  have hrq := own_ne hrow hQ hT
  have c0 : w.cell? ⟨q, off, none⟩ = some (.map (some a)) := by rw [cell_of_row w q off _ _ _ hQ]; exact hq0
  have c1 : w.cell? ⟨q, off + 1, none⟩ = some (.slice ro row.length rc) := by rw [cell_of_row w q (off + 1) _ _ _ hQ]; exact hq1
  have hrd := round_ok p row.length w hp (by omega)
  have hrl := rnd_le p row.length
  generalize rnd p row.length = L at hrd hrl ⊢
  have hcl := mapsClone_ok a A l w h
  have hcut := fun W => Tryz.cutNc W ro row.length rc L (by omega)
  obtain ⟨v2, hv2⟩ : ∃ v, cs[off + 2]? = some v := ⟨cs[off + 2], Array.getElem?_eq_getElem (by omega)⟩
  have HX := hide (And.intro hQ (And.intro h hrow))
  clear hQ h hrow
  go_enter Tryz.func68, Tryz.ntmps68
  go_wp2_with (first
    | (go_at_call 110; have Ha := hrd; refine hrd.mono ?_; rintro e w' ⟨rfl, rfl⟩; clear Ha hrd)
    | (go_at_call 111; have Ha := hcl; refine hcl.mono ?_; rintro e w1 ⟨rfl, hM1, hK1, hs1⟩; have hQ1 : w1.heap[q]? = some (.cells cs T (0, 0)) := (hK1.block q hqlt (by simp)).trans HX.out.1; have d2 : w1.cell? ⟨q, off + 2, none⟩ = some v2 := (by rw [cell_of_row w1 q (off + 2) _ _ _ hQ1]; exact hv2); have f2 : w1.frozen? ⟨q, off + 2, none⟩ = false := frozen_of_row w1 q (off + 2) _ _ hQ1; have hQ2 := heap_setCell_same w1 q (off + 2) cs T (.map (some w'.heap.size)) hQ1; have d1 : (w1.setCell ⟨q, off + 2, none⟩ (.map (some w'.heap.size))).cell? ⟨q, off + 1, none⟩ = some (.slice ro row.length rc) := (by rw [cell_of_row _ q (off + 1) _ _ _ hQ2, Array.getElem?_setIfInBounds_ne (by omega)]; exact hq1); have HN := hide (And.intro hM1 (And.intro hK1 (And.intro hQ1 hQ2))); clear hM1 hK1 hQ1 hQ2 Ha hcl c0 c1))
  have HD : Hid (DirOn w' (w1.setCell ⟨q, off + 2, none⟩ (.map (some w'.heap.size))) q off w'.heap.size T cs (.slice ro row.length rc) A row l) := by
    obtain ⟨hM1, hK1, hQ1, hQ2⟩ := HN.out
    have hK2 : Keep (· = q) w1 (w1.setCell ⟨q, off + 2, none⟩ (.map (some w'.heap.size))) := (Keep.refl (· = q) w1).setCell (p := ⟨q, off + 2, none⟩) (fun _ => rfl) _
    refine ⟨hQ2, hM1.keep hK2 (by show ¬ w'.heap.size = q; omega), own_keeps (own_keeps HX.out.2.2 (Keep.ofNone (F := fun _ => False) hK1) (fun _ _ h => h)) hK2 (fun g hg e => hrq (by rw [hg, e])), (Keep.ofNone hK1).trans hK2 (fun i e _ => e), Nat.le_refl _⟩
  clear HN d1 d2 f2
  have hQsz : (cs.setIfInBounds (off + 2) (Value.map (some w'.heap.size))).size = cs.size := by simp
  generalize w1.setCell ⟨q, off + 2, none⟩ (.map (some w'.heap.size)) = w2 at HD ⊢
  generalize hm1 : w'.heap.size = m1 at HD hQsz ⊢
  go_loopw [29, 6] (fun i _ wr => ∃ k : Nat, k ≤ L ∧ i = .int .i64 k ∧ Hid (DirOn w' wr q off m1 T cs (.slice ro row.length rc) A row (Dsk.runN l (row.take k)))) (fun i _ wr => L - (intOf i).toNat)
  case atStart => exact ⟨0, by omega, rfl, HD⟩
  case round =>
    clear HD
    obtain ⟨k, hk, rfl, HR⟩ := hrel
    by_cases hlt : k < L
    · obtain ⟨c, hc⟩ : ∃ c, row[k]? = some c := ⟨row[k], List.getElem?_eq_getElem (by omega)⟩
      have hcm : c ∈ row := List.mem_of_getElem? hc
      have htk : row.take (k + 1) = row.take k ++ [c] := by
        rw [List.take_add_one, hc]; rfl
      have hokc : c.ok (Dsk.runN l (row.take k)) := by
        have := okN_take l row (k + 1) hok
        rw [htk, okN_snoc] at this
        exact this.2
      obtain ⟨g, hg⟩ : ∃ g, ro = some ⟨g, 0, none⟩ := by
        rcases HR.out.row.2 with ⟨e, e2⟩ | ⟨g, cap, cur, e, _⟩
        · omega
        · injection e with e _ _; exact ⟨g, e⟩
      subst hg
      have hcell : wr.cell? ⟨g, k, none⟩ = some (encNc A c) := by
        have := HR.out.row.cells (g := g) rfl k (encNc A c) (by simp [hc])
        rwa [add0] at this
      have hc2 : wr.cell? ⟨q, off + 2, none⟩ = some (.map (some m1)) := by
        rw [cell_of_row wr q (off + 2) _ _ _ HR.out.cells, Array.getElem?_setIfInBounds_self_of_lt (by omega)]
      have hap := ncApply_ok c m1 A (Dsk.runN l (row.take k)) wr.drew (HR.out.mp.keep (Keep.refl (fun _ => False) wr).drew (fun h => h)) hokc (hs c hcm) (by have := Dsk.runN_len l (row.take k); rw [List.length_take] at this; omega)
      have FIN : Hid (∀ w3, Mp w3 m1 A (c.apply (Dsk.runN l (row.take k))) → Keep (· = m1) wr.drew w3 → DirOn w' w3 q off m1 T cs (.slice (some ⟨g, 0, none⟩) row.length rc) A row (Dsk.runN l (row.take (k + 1)))) := fun w3 hM hK => by
        rw [htk, Dsk.runN_snoc]
        exact HR.out.step hqlt hM hK
      clear HR htk hokc hc hcut hm1 hcm
      cases c with
      | mk n j =>
        simp only [encNc] at hcell
        have hm : ∀ w : World, (method 377 141 (.agg #[encStr n, .pointer (some ⟨A j, 0, none⟩)]) "freight/disk.apply").run Tryz.prog w = .ok (176, .agg #[encStr n, .pointer (some ⟨A j, 0, none⟩)]) w := fun _ => by kernel_rfl
        have hna : ∀ w : World, (nilAhead 377 141 (.agg #[encStr n, .pointer (some ⟨A j, 0, none⟩)]) "freight/disk.apply").run Tryz.prog w = .ok (some false) w := fun _ => by kernel_rfl
        simp only [ncFunc, ncVal] at hap
        go_wp2
        go_still_tail 8, Tryz.follows
        rw [World.drew_eq]
        go_wp2_with (go_at_call 176; refine hap.mono ?_; rintro e w3 ⟨rfl, hM3, hK3⟩; have H3 := hide (FIN.out w3 hM3 hK3); clear hM3 hK3 hap FIN)
        go_roundw
        case rel => exact ⟨k + 1, by omega, by go_num, H3⟩
        case measure => simp [intOf]; omega
      | gv f t =>
        simp only [encNc] at hcell
        have hm : ∀ w : World, (method 377 164 (.agg #[encStr f, encStr t]) "freight/disk.apply").run Tryz.prog w = .ok (179, .agg #[encStr f, encStr t]) w := fun _ => by kernel_rfl
        have hna : ∀ w : World, (nilAhead 377 164 (.agg #[encStr f, encStr t]) "freight/disk.apply").run Tryz.prog w = .ok (some false) w := fun _ => by kernel_rfl
        simp only [ncFunc, ncVal] at hap
        go_wp2
        go_still_tail 8, Tryz.follows
        rw [World.drew_eq]
        go_wp2_with (go_at_call 179; refine hap.mono ?_; rintro e w3 ⟨rfl, hM3, hK3⟩; have H3 := hide (FIN.out w3 hM3 hK3); clear hM3 hK3 hap FIN)
        go_roundw
        case rel => exact ⟨k + 1, by omega, by go_num, H3⟩
        case measure => simp [intOf]; omega
      | tk n =>
        simp only [encNc] at hcell
        have hm : ∀ w : World, (method 377 166 (.agg #[encStr n]) "freight/disk.apply").run Tryz.prog w = .ok (180, .agg #[encStr n]) w := fun _ => by kernel_rfl
        have hna : ∀ w : World, (nilAhead 377 166 (.agg #[encStr n]) "freight/disk.apply").run Tryz.prog w = .ok (some false) w := fun _ => by kernel_rfl
        simp only [ncFunc, ncVal] at hap
        go_wp2
        go_still_tail 8, Tryz.follows
        rw [World.drew_eq]
        go_wp2_with (go_at_call 180; refine hap.mono ?_; rintro e w3 ⟨rfl, hM3, hK3⟩; have H3 := hide (FIN.out w3 hM3 hK3); clear hM3 hK3 hap FIN)
        go_roundw
        case rel => exact ⟨k + 1, by omega, by go_num, H3⟩
        case measure => simp [intOf]; omega
    · have hkL : k = L := by omega
      subst hkL
      have hsy := dirSync_ok q off m1 T _ A _ wr HR.out.cells (by rw [hQsz]; omega) (by rw [Array.getElem?_setIfInBounds_self_of_lt (by omega)]) HR.out.mp
      go_wp2_with (go_at_call 98; have Ha := hsy; refine hsy.mono ?_; rintro e w3 ⟨rfl, hS3⟩; clear Ha hsy)
      first | refine bodyPost_end (results_none rfl _ _ _) rfl ?_ | refine bodyPost_ret (results_none rfl _ _ _) rfl ?_
      obtain ⟨nb, h1, h2, h3, h4, h5⟩ := hS3
      have h6 := HR.out.mp.lt
      have h7 := HR.out.keep.size
      exact ⟨rfl, m1, nb, h1, h2, h3, HR.out.keep.trans h4 (fun i e _ => e), HR.out.ge, by omega, by omega⟩
end Go.Proofs.YtemlbmamcbmnjaaGreatDoor
