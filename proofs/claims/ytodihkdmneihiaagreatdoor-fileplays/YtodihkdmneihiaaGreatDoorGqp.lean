import Derived.Test.YtodihkdmneihiaaGreatDoorGwp
import Derived.Laws.Externs
import Derived.MapKept
import Derived.WalkSpells
namespace Go.Proofs.YtodihkdmneihiaaGreatDoor
section
open Go.RowKit Dsk
set_option linter.unusedVariables false
set_option linter.unusedSimpArgs false
theorem Tryz.infoNc : (Tryz.prog.info? 182).map (fun i => (i.zero, i.size, i.bytes)) = some (some .nilIface, 1, 16) := by kernel_rfl
theorem encNc_one (A : Nat → Nat) (c : Nc) : (encNc A c).oneCell' = true := by cases c <;> rfl
set_option maxHeartbeats 800000 in
set_option maxRecDepth 100000 in
theorem dirChange_ok (c : Nc) (q off b : Nat) (T : TypeId) (cs : Array Value) (rv : Value) (A : Nat → Nat) (l : Nm) (row : List Nc) (w : World) (hQ : w.heap[q]? = some (.cells cs T (0, 0))) (hT : T ≠ 182) (hq1 : cs[off + 1]? = some rv) (hq2 : cs[off + 2]? = some (.map (some b)))
  (hrow : w.ownsRow 0 182 1 rv row.length (row.map (encNc A))) (h : Mp w b A l) (hok : c.ok l) (hs : ncShort c) (hl : l.length < 1073741824) (hr : row.length < 1073741824) :
  Calls Tryz.prog 70 #[.pointer (some ⟨q, off, none⟩), encNc A c] w fun e w' => e = .returned (.tuple #[]) ∧
   ∃ rv', w'.heap[q]? = some (.cells (cs.setIfInBounds (off + 1) rv') T (0, 0)) ∧ w'.ownsRow 0 182 1 rv' (row ++ [c]).length ((row ++ [c]).map (encNc A)) ∧ Mp w' b A (c.apply l) ∧ Keep (fun k => k = q ∨ k = b ∨ rv.ownBlock = some k) w w' ∧ (∀ g, rv'.ownBlock = some g → rv.ownBlock = some g ∨ w.heap.size ≤ g) := by
 obtain ⟨ro, rc, rfl, hrc⟩ := own_shape hrow
 have hqlt : q < w.heap.size := (Array.getElem?_eq_some_iff.1 hQ).1
 have hbq : b ≠ q := map_ne h hQ (by simp)
 have hrq := own_ne hrow hQ hT
 have hrb := own_nmap hrow h.blk
 obtain ⟨g, c2, w1, hrun, ho1, hk1, hg1, hlt1⟩ := run_app (P := Tryz.prog) w 93 93 182 Tryz.underlying93 Tryz.infoNc rfl (by decide) _ row.length _ hrow [encNc A c] rfl (by simp [encNc_one]) (by unfold maxLen; omega) (by omega)
 have hK1 := hk1 (fun k => (Value.slice ro row.length rc).ownBlock = some k) (fun k e => e)
 have hQ1 := hK1.heapOf hQ hrq
 have hM1 := h.keep hK1 hrb
 have hgq : g ≠ q := by rcases hg1 with e | e; exact fun e2 => hrq (by rw [← e, e2]); omega
 have hblt := h.lt
 have hgb : g ≠ b := by rcases hg1 with e | e; exact fun e2 => hrb (by rw [← e, e2]); omega
 obtain ⟨w2, hw2⟩ : ∃ w2, w2 = w1.setCell ⟨q, off + 1, none⟩ (.slice (some ⟨g, 0, none⟩) (row.length + 1) c2) := ⟨_, rfl⟩
 have hK2 : Keep (· = q) w1 w2 := by rw [hw2]; exact (Keep.refl (· = q) w1).setCell (p := ⟨q, off + 1, none⟩) (fun _ => rfl) _
 have hQ2 : w2.heap[q]? = some (.cells (cs.setIfInBounds (off + 1) (.slice (some ⟨g, 0, none⟩) (row.length + 1) c2)) T (0, 0)) := by rw [hw2]; exact heap_setCell_same w1 q (off + 1) cs T _ hQ1
 have hM2 := hM1.keep hK2 hbq
 have ho2 := own_keeps ho1 hK2 (fun k e => by simp only [Value.ownBlock, Option.some.injEq] at e; subst e; exact hgq)
 have c1 : w.cell? ⟨q, off + 1, none⟩ = some (.slice ro row.length rc) := by rw [cell_of_row w q (off + 1) _ _ _ hQ]; exact hq1
 have hap := ncApply_ok c b A l w2.drew (hM2.keep (Keep.refl (fun _ => False) w2).drew (fun h => h)) hok hs hl
 have hc1 : w1.cell? ⟨q, off + 1, none⟩ = some (.slice ro row.length rc) := by rw [cell_of_row w1 q (off + 1) _ _ _ hQ1]; exact hq1
 have hf1 : w1.frozen? ⟨q, off + 1, none⟩ = false := frozen_of_row w1 q (off + 1) _ _ hQ1
 have hc2 : w2.cell? ⟨q, off + 2, none⟩ = some (.map (some b)) := by
  rw [cell_of_row w2 q (off + 2) _ _ _ hQ2, Array.getElem?_setIfInBounds_ne (by omega)]
  exact hq2
 have FIN : Hid (∀ w3, Mp w3 b A (c.apply l) → Keep (· = b) w2.drew w3 → ∃ rv', w3.heap[q]? = some (.cells (cs.setIfInBounds (off + 1) rv') T (0, 0)) ∧ w3.ownsRow 0 182 1 rv' (row ++ [c]).length ((row ++ [c]).map (encNc A)) ∧ Mp w3 b A (c.apply l) ∧ Keep (fun k => k = q ∨ k = b ∨ (Value.slice ro row.length rc).ownBlock = some k) w w3 ∧ (∀ g, rv'.ownBlock = some g → (Value.slice ro row.length rc).ownBlock = some g ∨ w.heap.size ≤ g)) := by
  intro w3 hM3 hK3
  have hK3' : Keep (· = b) w2 w3 := ⟨hK3.os, hK3.tape, hK3.output, hK3.size, hK3.block⟩
  refine ⟨_, hK3'.heapOf hQ2 (Ne.symm hbq), ?_, hM3, ((hK1.mono (fun k e _ => .inr (.inr e))).trans hK2 (fun k e _ => .inl e)).trans hK3' (fun k e _ => .inr (.inl e)), ?_⟩
  ·have := own_keeps ho2 hK3' (fun k e => by simp only [Value.ownBlock, Option.some.injEq] at e; subst e; exact hgb)
   simpa using this
  ·intro k e
   simp only [Value.ownBlock, Option.some.injEq] at e
   subst e
   rcases hg1 with e | e
   ·exact .inl e.symm
   ·exact .inr e
 clear hM2 ho2 hQ2 hM1 hQ1 hK1 hK2 ho1 hk1 hQ h hrow hg1 hgq hgb hrb hrq hbq hq1 hq2 hrc hlt1
 cases c with
 | mk n k =>
  simp only [encNc] at hrun ⊢
  have hm : ∀ w : World, (method 367 124 (.agg #[encStr n, .pointer (some ⟨A k, 0, none⟩)]) "freight/disk.apply").run Tryz.prog w = .ok (167, .agg #[encStr n, .pointer (some ⟨A k, 0, none⟩)]) w := fun _ => by kernel_rfl
  have hna : ∀ w : World, (nilAhead 367 124 (.agg #[encStr n, .pointer (some ⟨A k, 0, none⟩)]) "freight/disk.apply").run Tryz.prog w = .ok (some false) w := fun _ => by kernel_rfl
  simp only [ncFunc, ncVal] at hap
  go_enter Tryz.func70, Tryz.ntmps70
  go_wp2_with (at_builtin; refine wpList_app_run rfl _ _ 93 93 rfl _ _ rfl rfl _ _ hrun ?_)
  rw [← hw2]
  clear hw2 hrun
  go_still_tail 8, Tryz.follows
  rw [World.drew_eq]
  go_wp2_with (go_at_call 167; refine hap.mono ?_; rintro e w3 ⟨rfl, hM3, hK3⟩)
  first | refine bodyPost_end (results_none rfl _ _ _) rfl ?_ | refine bodyPost_ret (results_none rfl _ _ _) rfl ?_
  exact ⟨rfl, FIN.out w3 hM3 hK3⟩
 | gv f t =>
  simp only [encNc] at hrun ⊢
  have hm : ∀ w : World, (method 367 147 (.agg #[encStr f, encStr t]) "freight/disk.apply").run Tryz.prog w = .ok (170, .agg #[encStr f, encStr t]) w := fun _ => by kernel_rfl
  have hna : ∀ w : World, (nilAhead 367 147 (.agg #[encStr f, encStr t]) "freight/disk.apply").run Tryz.prog w = .ok (some false) w := fun _ => by kernel_rfl
  simp only [ncFunc, ncVal] at hap
  go_enter Tryz.func70, Tryz.ntmps70
  go_wp2_with (at_builtin; refine wpList_app_run rfl _ _ 93 93 rfl _ _ rfl rfl _ _ hrun ?_)
  rw [← hw2]
  clear hw2 hrun
  go_still_tail 8, Tryz.follows
  rw [World.drew_eq]
  go_wp2_with (go_at_call 170; refine hap.mono ?_; rintro e w3 ⟨rfl, hM3, hK3⟩)
  first | refine bodyPost_end (results_none rfl _ _ _) rfl ?_ | refine bodyPost_ret (results_none rfl _ _ _) rfl ?_
  exact ⟨rfl, FIN.out w3 hM3 hK3⟩
 | tk n =>
  simp only [encNc] at hrun ⊢
  have hm : ∀ w : World, (method 367 149 (.agg #[encStr n]) "freight/disk.apply").run Tryz.prog w = .ok (171, .agg #[encStr n]) w := fun _ => by kernel_rfl
  have hna : ∀ w : World, (nilAhead 367 149 (.agg #[encStr n]) "freight/disk.apply").run Tryz.prog w = .ok (some false) w := fun _ => by kernel_rfl
  simp only [ncFunc, ncVal] at hap
  go_enter Tryz.func70, Tryz.ntmps70
  go_wp2_with (at_builtin; refine wpList_app_run rfl _ _ 93 93 rfl _ _ rfl rfl _ _ hrun ?_)
  rw [← hw2]
  clear hw2 hrun
  go_still_tail 8, Tryz.follows
  rw [World.drew_eq]
  go_wp2_with (go_at_call 171; refine hap.mono ?_; rintro e w3 ⟨rfl, hM3, hK3⟩)
  first | refine bodyPost_end (results_none rfl _ _ _) rfl ?_ | refine bodyPost_ret (results_none rfl _ _ _) rfl ?_
  exact ⟨rfl, FIN.out w3 hM3 hK3⟩
end

section
open Go.RowKit Dsk
set_option linter.unusedVariables false
set_option linter.unusedSimpArgs false
theorem run_assert_map {P : Program} (w : World) (t xT k e : TypeId) (v : Value) (h : P.underlying t = some (.map k e)) : (Instr.typeAssert (.iface t v) xT t false).run P w = .ok v w := by
 simp [Instr.typeAssert, run_underlying h, go_sem, Result.andThen]
theorem run_clone_ext {P : Program} (w : World) {r : Nat} {es : Array MapEntry} {clock : Nat} (t : TypeId) (hb : w.heap[r]? = some (.map es clock)) :
  (Extern.MapsClone.clone #[.iface t (.map (some r))]).run P w = .ok (.iface t (.map (some w.heap.size))) (w.alloc (.map es clock)) := by
 have e : Extern.MapsClone.clone #[.iface t (.map (some r))] = (getObj r >>= fun o => match o with
   | .map entries clock => (newObj (.map entries clock) >>= fun n => pure (.iface t (.map (some n))))
   | _ => stuck "maps.clone: a map expected") := rfl
 rw [e]
 simp [MapKept.run_getObj_map hb, Result.andThen, go_sem]
set_option maxHeartbeats 800000 in
set_option maxRecDepth 100000 in
theorem mapsClone_ok (b : Nat) (A : Nat → Nat) (l : Nm) (w : World) (h : Mp w b A l) :
  Calls Tryz.prog 110 #[.map (some b)] w fun e w' => e = .returned (.map (some w.heap.size)) ∧ Mp w' w.heap.size A l ∧ Kept [] w w' ∧ w'.heap.size = w.heap.size + 1 := by
 obtain ⟨es, clock, hb, hF⟩ := h
 have hq := fun w => run_eql_map_nil (P := Tryz.prog) w 92 _ _ (some b) Tryz.underlying92
 go_enter Tryz.func110, Tryz.ntmps110
 go_wp2
 rw [run_callFunc_extern Tryz.func120 (by kernel_rfl) (by kernel_rfl) (by kernel_rfl) (e := Extern.MapsClone.clone) (by kernel_rfl), run_clone_ext w 92 hb]
 simp only [Result.andThen]
 rw [Oper.upon_value]
 go_wp2
 rw [run_assert_map _ 92 20 9 _ _ Tryz.underlying92]
 simp only [Result.andThen]
 rw [Oper.upon_value]
 go_wp2
 go_ret
 exact ⟨rfl, ⟨es, clock, (MapKept.heap_alloc w _).1, hF⟩, (Kept.refl [] w).alloc _, by simp⟩
def DirSynced (w w' : World) (q off b : Nat) (T : TypeId) (cs : Array Value) (A : Nat → Nat) (l : Nm) : Prop :=
 ∃ nb, w'.heap[q]? = some (.cells ((cs.setIfInBounds off (.map (some nb))).setIfInBounds (off + 1) (.slice none 0 0)) T (0, 0)) ∧ Mp w' nb A l ∧ Mp w' b A l ∧ Keep (· = q) w w' ∧ w.heap.size ≤ nb
set_option maxHeartbeats 800000 in
set_option maxRecDepth 100000 in
theorem dirSync_ok (q off b : Nat) (T : TypeId) (cs : Array Value) (A : Nat → Nat) (l : Nm) (w : World) (hQ : w.heap[q]? = some (.cells cs T (0, 0))) (hsz : off + 2 < cs.size) (hq2 : cs[off + 2]? = some (.map (some b))) (h : Mp w b A l) :
  Calls Tryz.prog 83 #[.pointer (some ⟨q, off, none⟩)] w fun e w' => e = .returned (.tuple #[]) ∧ DirSynced w w' q off b T cs A l := by
 have hbq : b ≠ q := map_ne h hQ (by simp)
 have hqlt : q < w.heap.size := (Array.getElem?_eq_some_iff.1 hQ).1
 have c2 : w.cell? ⟨q, off + 2, none⟩ = some (.map (some b)) := by rw [cell_of_row w q (off + 2) _ _ _ hQ]; exact hq2
 have hcl := mapsClone_ok b A l w h
 obtain ⟨v0, hv0⟩ : ∃ v, cs[off]? = some v := ⟨cs[off], Array.getElem?_eq_getElem (by omega)⟩
 obtain ⟨v1, hv1⟩ : ∃ v, cs[off + 1]? = some v := ⟨cs[off + 1], Array.getElem?_eq_getElem (by omega)⟩
 have HQ := hide hQ
 have HM := hide h
 clear hQ h hq2
 go_enter Tryz.func83, Tryz.ntmps83
 go_wp2_with (go_at_call 110; have Ha := hcl; refine hcl.mono ?_; rintro e w1 ⟨rfl, hM1, hK1, hs1⟩; have hQ1 : w1.heap[q]? = some (.cells cs T (0, 0)) := (hK1.block q hqlt (by simp)).trans HQ.out; have d0 : w1.cell? ⟨q, off, none⟩ = some v0 := (by rw [cell_of_row w1 q off _ _ _ hQ1]; exact hv0); have f0 : w1.frozen? ⟨q, off, none⟩ = false := frozen_of_row w1 q off _ _ hQ1; have HN := hide (And.intro hM1 (And.intro hK1 hQ1)); have hQ2 := heap_setCell_same w1 q off cs T (.map (some w.heap.size)) hQ1; have d1 : (w1.setCell ⟨q, off, none⟩ (.map (some w.heap.size))).cell? ⟨q, off + 1, none⟩ = some v1 := (by rw [cell_of_row _ q (off + 1) _ _ _ hQ2, Array.getElem?_setIfInBounds_ne (by omega)]; exact hv1); have f1 : (w1.setCell ⟨q, off, none⟩ (.map (some w.heap.size))).frozen? ⟨q, off + 1, none⟩ = false := frozen_of_row _ q (off + 1) _ _ hQ2; have HQ2 := hide hQ2; clear hM1 hK1 hQ1 hQ2 Ha hcl)
 first | refine bodyPost_end (results_none rfl _ _ _) rfl ?_ | refine bodyPost_ret (results_none rfl _ _ _) rfl ?_
 obtain ⟨hM1, hK1, hQ1⟩ := HN.out
 have hK2 : Keep (· = q) w1 ((w1.setCell ⟨q, off, none⟩ (.map (some w.heap.size))).setCell ⟨q, off + 1, none⟩ (.slice none 0 0)) := ((Keep.refl (· = q) w1).setCell (p := ⟨q, off, none⟩) (fun _ => rfl) _).setCell (p := ⟨q, off + 1, none⟩) (fun _ => rfl) _
 refine ⟨rfl, w.heap.size, heap_setCell_same _ q (off + 1) _ T _ HQ2.out, hM1.keep hK2 (by show ¬ w.heap.size = q; omega), ((HM.out.keep (F := fun _ => False) ⟨hK1.os, hK1.tape, hK1.output, hK1.size, fun k hk _ => hK1.block k hk (by simp)⟩ (fun h => h)).keep hK2 hbq), (Keep.ofNone hK1).trans hK2 (fun i e _ => e), Nat.le_refl _⟩
theorem Tryz.cutNc (W : World) (ao : Option Addr) (L cap m : Nat) (hm : m ≤ cap) :
  (Instr.slice 93 (.slice ao L cap) none (some (.int .i64 m)) none).run Tryz.prog W = .ok (.slice ao m cap) W := by
 have hz : (sizeOf (Tryz.prog.elem 93)).run Tryz.prog W = .ok 1 W := by kernel_rfl
 have h := run_slice_h (P := Tryz.prog) W 93 ao L cap (by kernel_rfl) .i64 m (by omega) (by omega)
 rw [h, hz]
 cases ao <;> simp [sliced, Addr.add]
def DirCrashed (w w' : World) (q off : Nat) (T : TypeId) (cs : Array Value) (A : Nat → Nat) (l : Nm) : Prop :=
 ∃ m1 m2, w'.heap[q]? = some (.cells (((cs.setIfInBounds (off + 2) (.map (some m1))).setIfInBounds off (.map (some m2))).setIfInBounds (off + 1) (.slice none 0 0)) T (0, 0)) ∧ Mp w' m2 A l ∧ Mp w' m1 A l ∧ Keep (· = q) w w' ∧ w.heap.size ≤ m1 ∧ w.heap.size ≤ m2 ∧ m2 ≠ m1
structure DirOn (w wr : World) (q off m1 : Nat) (T : TypeId) (cs : Array Value) (rv : Value) (A : Nat → Nat) (row : List Nc) (l : Nm) : Prop where
 cells : wr.heap[q]? = some (.cells (cs.setIfInBounds (off + 2) (.map (some m1))) T (0, 0))
 mp : Mp wr m1 A l
 row : wr.ownsRow 0 182 1 rv row.length (row.map (encNc A))
 keep : Keep (· = q) w wr
 ge : w.heap.size ≤ m1
theorem DirOn.step {w wr wr' : World} {q off m1 : Nat} {T : TypeId} {cs : Array Value} {rv : Value} {A : Nat → Nat} {row : List Nc} {l l' : Nm} (h : DirOn w wr q off m1 T cs rv A row l) (hq : q < w.heap.size) (hM : Mp wr' m1 A l') (hK : Keep (· = m1) wr.drew wr') : DirOn w wr' q off m1 T cs rv A row l' := by
 have hK' : Keep (· = m1) wr wr' := ⟨hK.os, hK.tape, hK.output, hK.size, hK.block⟩
 have hge := h.ge
 refine ⟨hK'.heapOf h.cells (by show ¬ q = m1; omega), hM, own_keeps h.row hK' (fun g hg e => own_nmap h.row h.mp.blk (by rw [hg, e])), h.keep.trans hK' (fun i e hi => by omega), h.ge⟩
set_option maxHeartbeats 1600000 in
set_option maxRecDepth 100000 in
theorem dirCrash_ok (p : Int) (q off a : Nat) (T : TypeId) (cs : Array Value) (rv : Value) (A : Nat → Nat) (l : Nm) (row : List Nc) (w : World) (hQ : w.heap[q]? = some (.cells cs T (0, 0))) (hT : T ≠ 182) (hsz : off + 2 < cs.size) (hq0 : cs[off]? = some (.map (some a))) (hq1 : cs[off + 1]? = some rv)
  (hrow : w.ownsRow 0 182 1 rv row.length (row.map (encNc A))) (h : Mp w a A l) (hup : l.Up) (hok : okN l row) (hs : ∀ c ∈ row, ncShort c) (hl : l.length + row.length < 1073741824) (hp : (Lit.int .i64 p).wf = true) :
  Calls Tryz.prog 85 #[.pointer (some ⟨q, off, none⟩), .int .i64 p] w fun e w' => e = .returned (.tuple #[]) ∧ DirCrashed w w' q off T cs A (Dsk.runN l (row.take (rnd p row.length))) := by
 obtain ⟨ro, rc, rfl, hrc⟩ := own_shape hrow
 have hqlt : q < w.heap.size := (Array.getElem?_eq_some_iff.1 hQ).1
 have haq : a ≠ q := map_ne h hQ (by simp)
 have hrq := own_ne hrow hQ hT
 have c0 : w.cell? ⟨q, off, none⟩ = some (.map (some a)) := by rw [cell_of_row w q off _ _ _ hQ]; exact hq0
 have c1 : w.cell? ⟨q, off + 1, none⟩ = some (.slice ro row.length rc) := by rw [cell_of_row w q (off + 1) _ _ _ hQ]; exact hq1
 have hrd := round_ok p row.length w hp (by omega)
 have hrl := rnd_le p row.length
 generalize rnd p row.length = L at hrd hrl ⊢
 have hcl := mapsClone_ok a A l w h
 have hcut := fun W => Tryz.cutNc W ro row.length rc L (by omega)
 obtain ⟨v2, hv2⟩ : ∃ v, cs[off + 2]? = some v := ⟨cs[off + 2], Array.getElem?_eq_getElem (by omega)⟩
 have HX := hide (And.intro hQ (And.intro h hrow))
 clear hQ h hrow
 go_enter Tryz.func85, Tryz.ntmps85
 go_wp2_with (first
  | (go_at_call 111; have Ha := hrd; refine hrd.mono ?_; rintro e w' ⟨rfl, rfl⟩; clear Ha hrd)
  | (go_at_call 110; have Ha := hcl; refine hcl.mono ?_; rintro e w1 ⟨rfl, hM1, hK1, hs1⟩; have hQ1 : w1.heap[q]? = some (.cells cs T (0, 0)) := (hK1.block q hqlt (by simp)).trans HX.out.1; have d2 : w1.cell? ⟨q, off + 2, none⟩ = some v2 := (by rw [cell_of_row w1 q (off + 2) _ _ _ hQ1]; exact hv2); have f2 : w1.frozen? ⟨q, off + 2, none⟩ = false := frozen_of_row w1 q (off + 2) _ _ hQ1; have hQ2 := heap_setCell_same w1 q (off + 2) cs T (.map (some w'.heap.size)) hQ1; have d1 : (w1.setCell ⟨q, off + 2, none⟩ (.map (some w'.heap.size))).cell? ⟨q, off + 1, none⟩ = some (.slice ro row.length rc) := (by rw [cell_of_row _ q (off + 1) _ _ _ hQ2, Array.getElem?_setIfInBounds_ne (by omega)]; exact hq1); have HN := hide (And.intro hM1 (And.intro hK1 (And.intro hQ1 hQ2))); clear hM1 hK1 hQ1 hQ2 Ha hcl c0 c1))
 have HD : Hid (DirOn w' (w1.setCell ⟨q, off + 2, none⟩ (.map (some w'.heap.size))) q off w'.heap.size T cs (.slice ro row.length rc) A row l) := by
  obtain ⟨hM1, hK1, hQ1, hQ2⟩ := HN.out
  have hK2 : Keep (· = q) w1 (w1.setCell ⟨q, off + 2, none⟩ (.map (some w'.heap.size))) := (Keep.refl (· = q) w1).setCell (p := ⟨q, off + 2, none⟩) (fun _ => rfl) _
  refine ⟨hQ2, hM1.keep hK2 (by show ¬ w'.heap.size = q; omega), own_keeps (own_keeps HX.out.2.2 (Keep.ofNone (F := fun _ => False) hK1) (fun _ _ h => h)) hK2 (fun g hg e => hrq (by rw [hg, e])), (Keep.ofNone hK1).trans hK2 (fun i e _ => e), Nat.le_refl _⟩
 clear HN d1 d2 f2
 have hQsz : (cs.setIfInBounds (off + 2) (Value.map (some w'.heap.size))).size = cs.size := by simp
 generalize w1.setCell ⟨q, off + 2, none⟩ (.map (some w'.heap.size)) = w2 at HD ⊢
 generalize hm1 : w'.heap.size = m1 at HD hQsz ⊢
 go_loopw [29, 6] (fun i _ wr => ∃ k : Nat, k ≤ L ∧ i = .int .i64 k ∧ Hid (DirOn w' wr q off m1 T cs (.slice ro row.length rc) A row (Dsk.runN l (row.take k)))) (fun i _ wr => L - (intOf i).toNat)
 case atStart => exact ⟨0, by omega, rfl, HD⟩
 case round =>
  clear HD
  obtain ⟨k, hk, rfl, HR⟩ := hrel
  by_cases hlt : k < L
  ·obtain ⟨c, hc⟩ : ∃ c, row[k]? = some c := ⟨row[k], List.getElem?_eq_getElem (by omega)⟩
   have hcm : c ∈ row := List.mem_of_getElem? hc
   have htk : row.take (k + 1) = row.take k ++ [c] := by
    rw [List.take_add_one, hc]; rfl
   have hokc : c.ok (Dsk.runN l (row.take k)) := by
    have := okN_take l row (k + 1) hok
    rw [htk, okN_snoc] at this
    exact this.2
   obtain ⟨g, hg⟩ : ∃ g, ro = some ⟨g, 0, none⟩ := by
    rcases HR.out.row.2 with ⟨e, e2⟩ | ⟨g, cap, cur, e, _⟩
    ·omega
    ·injection e with e _ _; exact ⟨g, e⟩
   subst hg
   have hcell : wr.cell? ⟨g, k, none⟩ = some (encNc A c) := by
    have := HR.out.row.cells (g := g) rfl k (encNc A c) (by simp [hc])
    rwa [add0] at this
   have hc2 : wr.cell? ⟨q, off + 2, none⟩ = some (.map (some m1)) := by
    rw [cell_of_row wr q (off + 2) _ _ _ HR.out.cells, Array.getElem?_setIfInBounds_self_of_lt (by omega)]
   have hap := ncApply_ok c m1 A (Dsk.runN l (row.take k)) wr.drew (HR.out.mp.keep (Keep.refl (fun _ => False) wr).drew (fun h => h)) hokc (hs c hcm) (by have := Dsk.runN_len l (row.take k); rw [List.length_take] at this; omega)
   have FIN : Hid (∀ w3, Mp w3 m1 A (c.apply (Dsk.runN l (row.take k))) → Keep (· = m1) wr.drew w3 → DirOn w' w3 q off m1 T cs (.slice (some ⟨g, 0, none⟩) row.length rc) A row (Dsk.runN l (row.take (k + 1)))) := fun w3 hM hK => by
    rw [htk, Dsk.runN_snoc]
    exact HR.out.step hqlt hM hK
   clear HR htk hokc hc hcut hm1 hcm
   cases c with
   | mk n j =>
    simp only [encNc] at hcell
    have hm : ∀ w : World, (method 367 124 (.agg #[encStr n, .pointer (some ⟨A j, 0, none⟩)]) "freight/disk.apply").run Tryz.prog w = .ok (167, .agg #[encStr n, .pointer (some ⟨A j, 0, none⟩)]) w := fun _ => by kernel_rfl
    have hna : ∀ w : World, (nilAhead 367 124 (.agg #[encStr n, .pointer (some ⟨A j, 0, none⟩)]) "freight/disk.apply").run Tryz.prog w = .ok (some false) w := fun _ => by kernel_rfl
    simp only [ncFunc, ncVal] at hap
    go_wp2
    go_still_tail 8, Tryz.follows
    rw [World.drew_eq]
    go_wp2_with (go_at_call 167; refine hap.mono ?_; rintro e w3 ⟨rfl, hM3, hK3⟩; have H3 := hide (FIN.out w3 hM3 hK3); clear hM3 hK3 hap FIN)
    go_roundw
    case rel => exact ⟨k + 1, by omega, by go_num, H3⟩
    case measure => simp [intOf]; omega
   | gv f t =>
    simp only [encNc] at hcell
    have hm : ∀ w : World, (method 367 147 (.agg #[encStr f, encStr t]) "freight/disk.apply").run Tryz.prog w = .ok (170, .agg #[encStr f, encStr t]) w := fun _ => by kernel_rfl
    have hna : ∀ w : World, (nilAhead 367 147 (.agg #[encStr f, encStr t]) "freight/disk.apply").run Tryz.prog w = .ok (some false) w := fun _ => by kernel_rfl
    simp only [ncFunc, ncVal] at hap
    go_wp2
    go_still_tail 8, Tryz.follows
    rw [World.drew_eq]
    go_wp2_with (go_at_call 170; refine hap.mono ?_; rintro e w3 ⟨rfl, hM3, hK3⟩; have H3 := hide (FIN.out w3 hM3 hK3); clear hM3 hK3 hap FIN)
    go_roundw
    case rel => exact ⟨k + 1, by omega, by go_num, H3⟩
    case measure => simp [intOf]; omega
   | tk n =>
    simp only [encNc] at hcell
    have hm : ∀ w : World, (method 367 149 (.agg #[encStr n]) "freight/disk.apply").run Tryz.prog w = .ok (171, .agg #[encStr n]) w := fun _ => by kernel_rfl
    have hna : ∀ w : World, (nilAhead 367 149 (.agg #[encStr n]) "freight/disk.apply").run Tryz.prog w = .ok (some false) w := fun _ => by kernel_rfl
    simp only [ncFunc, ncVal] at hap
    go_wp2
    go_still_tail 8, Tryz.follows
    rw [World.drew_eq]
    go_wp2_with (go_at_call 171; refine hap.mono ?_; rintro e w3 ⟨rfl, hM3, hK3⟩; have H3 := hide (FIN.out w3 hM3 hK3); clear hM3 hK3 hap FIN)
    go_roundw
    case rel => exact ⟨k + 1, by omega, by go_num, H3⟩
    case measure => simp [intOf]; omega
  ·have hkL : k = L := by omega
   subst hkL
   have hsy := dirSync_ok q off m1 T _ A _ wr HR.out.cells (by rw [hQsz]; omega) (by rw [Array.getElem?_setIfInBounds_self_of_lt (by omega)]) HR.out.mp
   go_wp2_with (go_at_call 83; have Ha := hsy; refine hsy.mono ?_; rintro e w3 ⟨rfl, hS3⟩; clear Ha hsy)
   first | refine bodyPost_end (results_none rfl _ _ _) rfl ?_ | refine bodyPost_ret (results_none rfl _ _ _) rfl ?_
   obtain ⟨nb, h1, h2, h3, h4, h5⟩ := hS3
   have h6 := HR.out.mp.lt
   have h7 := HR.out.keep.size
   exact ⟨rfl, m1, nb, h1, h2, h3, HR.out.keep.trans h4 (fun i e _ => e), HR.out.ge, by omega, by omega⟩
end

section
open Go.RowKit Dsk
set_option linter.unusedVariables false
set_option linter.unusedSimpArgs false
theorem Tg.ext {F : Nat → Prop} {w w' : World} {o : Lab} {l b l' : Nat} {t : Th} (h : Tg w o l b t) (hk : Keep F w w') (hF : ∀ g, o g = l → ¬ F g) : Tg w' (o.ext w w' l') l b t := by
 obtain ⟨rv, sv, h⟩ := h
 have h' := h.keep hk hF
 have hr := h.row.lt
 exact ⟨rv, sv, h'.cells, h'.row, h'.shown, (Lab.ext_old h.lt).trans h.lb, fun g hg => (Lab.ext_old (h.row.lt g hg).2).trans (h.lr g hg), fun g hg => (Lab.ext_old (h.shown.lt hg)).trans (h.ls g hg)⟩
theorem Ext_ext (o : Lab) (w w' : World) (l : Nat) : o.Ext (o.ext w w' l) w := fun b hb h => by rwa [Lab.ext_old hb] at h
theorem lim_ext {o : Lab} {w w' : World} {l : Nat} (h : ∀ b, o b ≠ 0 → b < w.heap.size) (hs : w.heap.size ≤ w'.heap.size) : ∀ b, o.ext w w' l b ≠ 0 → b < w'.heap.size := by
 intro b hb
 unfold Lab.ext at hb
 split at hb
 ·omega
 ·split at hb
  ·assumption
  ·exact absurd rfl hb
section
variable {w : World} {p : Nat} {S : Ds} {A : Nat → Nat} {o : Lab} {ms mh : Nat} {rv sv : Value}
theorem PDx.lt (h : PDx w p S A o ms mh rv sv) : p < w.heap.size := (Array.getElem?_eq_some_iff.1 h.cells).1
theorem PDx.c (h : PDx w p S A o ms mh rv sv) (j : Nat) : w.cell? ⟨p, j, none⟩ = #[.int .i64 S.room, .bool S.on, .map (some ms), rv, .map (some mh), .int .i64 S.strokes, .int .i64 S.off, .int .i64 S.from_, .int .i64 S.to, .int .i64 S.planned, sv][j]? := cell_of_row w p j _ _ _ h.cells
theorem PDx.c0 (h : PDx w p S A o ms mh rv sv) : w.cell? ⟨p, 0, none⟩ = some (.int .i64 S.room) := h.c 0
theorem PDx.c1 (h : PDx w p S A o ms mh rv sv) : w.cell? ⟨p, 1, none⟩ = some (.bool S.on) := h.c 1
theorem PDx.c2 (h : PDx w p S A o ms mh rv sv) : w.cell? ⟨p, 2, none⟩ = some (.map (some ms)) := h.c 2
theorem PDx.c3 (h : PDx w p S A o ms mh rv sv) : w.cell? ⟨p, 3, none⟩ = some rv := h.c 3
theorem PDx.c4 (h : PDx w p S A o ms mh rv sv) : w.cell? ⟨p, 4, none⟩ = some (.map (some mh)) := h.c 4
theorem PDx.c5 (h : PDx w p S A o ms mh rv sv) : w.cell? ⟨p, 5, none⟩ = some (.int .i64 S.strokes) := h.c 5
theorem PDx.c6 (h : PDx w p S A o ms mh rv sv) : w.cell? ⟨p, 6, none⟩ = some (.int .i64 S.off) := h.c 6
theorem PDx.c7 (h : PDx w p S A o ms mh rv sv) : w.cell? ⟨p, 7, none⟩ = some (.int .i64 S.from_) := h.c 7
theorem PDx.c8 (h : PDx w p S A o ms mh rv sv) : w.cell? ⟨p, 8, none⟩ = some (.int .i64 S.to) := h.c 8
theorem PDx.c9 (h : PDx w p S A o ms mh rv sv) : w.cell? ⟨p, 9, none⟩ = some (.int .i64 S.planned) := h.c 9
theorem PDx.c10 (h : PDx w p S A o ms mh rv sv) : w.cell? ⟨p, 10, none⟩ = some sv := h.c 10
theorem PDx.fr (h : PDx w p S A o ms mh rv sv) (j : Nat) : w.frozen? ⟨p, j, none⟩ = false := frozen_of_row w p j _ _ h.cells
theorem PDx.ne_m (h : PDx w p S A o ms mh rv sv) : ms ≠ p := map_ne h.safe h.cells (by simp)
theorem PDx.ne_h (h : PDx w p S A o ms mh rv sv) : mh ≠ p := map_ne h.shown h.cells (by simp)
theorem PDx.ne_r (h : PDx w p S A o ms mh rv sv) : rv.ownBlock ≠ some p := own_ne h.row h.cells (by decide)
theorem PDx.ne_s (h : PDx w p S A o ms mh rv sv) : sv.ownBlock ≠ some p := own_ne h.reads h.cells (by decide)
theorem PDx.recell {S' : Ds} {w' : World} (h : PDx w p S A o ms mh rv sv) (hk : Keep (· = p) w w') (hwf : S'.Wf) (hc : w'.heap[p]? = some (.cells #[.int .i64 S'.room, .bool S'.on, .map (some ms), rv, .map (some mh), .int .i64 S'.strokes, .int .i64 S'.off, .int .i64 S'.from_, .int .i64 S'.to, .int .i64 S'.planned, sv] 97 (0, 0)))
  (e1 : S'.safe = S.safe) (e2 : S'.shown = S.shown) (e3 : S'.row = S.row) (e4 : S'.reads = S.reads) (e5 : S'.th = S.th) (e6 : S'.nx = S.nx) (hp : (Lit.int .i64 S'.off).wf = true ∧ (Lit.int .i64 S'.from_).wf = true ∧ (Lit.int .i64 S'.to).wf = true) : PDx w' p S' A o ms mh rv sv := by
 refine ⟨hwf, hc, h.ne, ?_, ?_, ?_, ?_, ?_, h.lp, h.lm, h.lh, h.lr, h.ls, fun b hb => Nat.lt_of_lt_of_le (h.lim b hb) hk.size, hp⟩
 ·rw [e1]; exact h.safe.keep hk h.ne_m
 ·rw [e2]; exact h.shown.keep hk h.ne_h
 ·rw [e3]; exact own_keeps h.row hk (fun g hg e => h.ne_r (by rw [hg, e]))
 ·rw [e4]; exact own_keeps h.reads hk (fun g hg e => h.ne_s (by rw [hg, e]))
 ·rw [e5, e6]
  intro k hk'
  obtain ⟨a, b, ht⟩ := h.th k hk'
  exact ⟨a, b, ht.keep hk (fun g hg e => by subst e; rw [h.lp] at hg; omega)⟩
end
set_option maxHeartbeats 800000 in
set_option maxRecDepth 100000 in
theorem off_ok {w : World} {p : Nat} {S : Ds} {A : Nat → Nat} {o : Lab} {ms mh : Nat} {rv sv : Value} (h : PDx w p S A o ms mh rv sv) : Calls Tryz.prog 41 #[.pointer (some ⟨p, 0, none⟩)] w fun e w' => e = .returned (.bool (!S.on)) ∧ w' = w := by
 have c1 := h.c1
 clear h
 go_enter Tryz.func41, Tryz.ntmps41
 go_wp2
 go_ret
 exact ⟨rfl, rfl⟩
def findV (S : Ds) (A : Nat → Nat) (n : By) : Value := if (S.find n).1 = 0 then .pointer (some ⟨A (S.find n).2, 0, none⟩) else .pointer none
set_option maxHeartbeats 800000 in
set_option maxRecDepth 100000 in
theorem find_ok {w : World} {p : Nat} {S : Ds} {A : Nat → Nat} {o : Lab} {ms mh : Nat} {rv sv : Value} (h : PDx w p S A o ms mh rv sv) (n : By) (hn : n.length ≤ 4611686018427387904) : Calls Tryz.prog 67 #[.pointer (some ⟨p, 0, none⟩), encStr n] w fun e w' => e = .returned (.tuple #[findV S A n, .int .i64 (S.find n).1]) ∧ w' = w := by
 have c4 := h.c4
 have hoff := off_ok h
 have hisn := isName_ok n w hn
 go_enter Tryz.func67, Tryz.ntmps67
 by_cases hon : S.on = true
 ·rw [hon] at hoff
  by_cases hnm : isNm n = true
  ·rw [hnm] at hisn
   have hlk := h.shown.look n (by unfold isNm at hnm; simp at hnm; unfold maxLen; omega)
   cases hg : S.shown.get n with
   | none =>
    rw [hg] at hlk
    have hv : Hid (S.find n = (53, 0)) := hide (by simp [Ds.find, hon, hnm, hg])
    clear hg h
    go_wp2_with (first
     | (go_at_call 41; refine hoff.mono ?_; rintro e w' ⟨rfl, rfl⟩)
     | (go_at_call 80; refine hisn.mono ?_; rintro e w' ⟨rfl, rfl⟩))
    go_ret2
    exact ⟨by unfold findV; rw [hv.out]; rfl, rfl⟩
   | some k =>
    rw [hg] at hlk
    have hv : Hid (S.find n = (0, k)) := hide (by simp [Ds.find, hon, hnm, hg])
    clear hg h
    go_wp2_with (first
     | (go_at_call 41; refine hoff.mono ?_; rintro e w' ⟨rfl, rfl⟩)
     | (go_at_call 80; refine hisn.mono ?_; rintro e w' ⟨rfl, rfl⟩))
    go_ret2
    exact ⟨by unfold findV; rw [hv.out]; rfl, rfl⟩
  ·simp only [Bool.not_eq_true] at hnm
   rw [hnm] at hisn
   have hv : Hid (S.find n = (51, 0)) := hide (by simp [Ds.find, hon, hnm])
   clear h
   go_wp2_with (first
    | (go_at_call 41; refine hoff.mono ?_; rintro e w' ⟨rfl, rfl⟩)
    | (go_at_call 80; refine hisn.mono ?_; rintro e w' ⟨rfl, rfl⟩))
   go_ret2
   exact ⟨by unfold findV; rw [hv.out]; rfl, rfl⟩
 ·simp only [Bool.not_eq_true] at hon
  rw [hon] at hoff
  have hv : Hid (S.find n = (50, 0)) := hide (by simp [Ds.find, hon])
  clear h
  go_wp2_with (go_at_call 41; refine hoff.mono ?_; rintro e w' ⟨rfl, rfl⟩)
  go_ret2
  exact ⟨by unfold findV; rw [hv.out]; rfl, rfl⟩
set_option maxHeartbeats 800000 in
set_option maxRecDepth 100000 in
theorem stroke_ok {w : World} {p : Nat} {S : Ds} {A : Nat → Nat} {o : Lab} {ms mh : Nat} {rv sv : Value} (h : PDx w p S A o ms mh rv sv) (r : Int) (hs : S.strokes < 1073741824) (hp : S.planned < 1073741824) : Calls Tryz.prog 69 #[.pointer (some ⟨p, 0, none⟩), .int .i64 r] w fun e w' => e = .returned (.int .i64 (S.ans r)) ∧ PDx w' p S.tick A o ms mh rv sv ∧ Keep (· = p) w w' := by
 have c5 := h.c5
 have f5 := h.fr 5
 obtain ⟨w1, hw1⟩ : ∃ w1, w1 = w.setCell ⟨p, 5, none⟩ (.int .i64 ((S.strokes : Int) + 1)) := ⟨_, rfl⟩
 have hQ1 := heap_setCell_same w p 5 _ _ (.int .i64 ((S.strokes : Int) + 1)) h.cells
 rw [← hw1] at hQ1
 have hk1 : Keep (· = p) w w1 := by rw [hw1]; exact (Keep.refl (· = p) w).setCell (p := ⟨p, 5, none⟩) (fun _ => rfl) _
 have c9 : w1.cell? ⟨p, 9, none⟩ = some (.int .i64 S.planned) := by rw [cell_of_row w1 p 9 _ _ _ hQ1]; rfl
 have f9 : w1.frozen? ⟨p, 9, none⟩ = false := frozen_of_row w1 p 9 _ _ hQ1
 obtain ⟨w2, hw2⟩ : ∃ w2, w2 = w1.setCell ⟨p, 9, none⟩ (.int .i64 ((S.planned : Int) + 1)) := ⟨_, rfl⟩
 have hQ2 := heap_setCell_same w1 p 9 _ _ (.int .i64 ((S.planned : Int) + 1)) hQ1
 rw [← hw2] at hQ2
 have hk2 : Keep (· = p) w w2 := by rw [hw2]; exact hk1.setCell (p := ⟨p, 9, none⟩) (fun _ => rfl) _
 have d9 : w2.cell? ⟨p, 9, none⟩ = some (.int .i64 ((S.planned : Int) + 1)) := by rw [cell_of_row w2 p 9 _ _ _ hQ2]; rfl
 have d6 : w2.cell? ⟨p, 6, none⟩ = some (.int .i64 S.off) := by rw [cell_of_row w2 p 6 _ _ _ hQ2]; rfl
 have FIN : Hid (∀ w3, Kept [] w2 w3 → ∀ b, S.tick.on = b → (w3.setCell ⟨p, 1, none⟩ (.bool b)).heap[p]? = some (.cells #[.int .i64 S.tick.room, .bool S.tick.on, .map (some ms), rv, .map (some mh), .int .i64 S.tick.strokes, .int .i64 S.tick.off, .int .i64 S.tick.from_, .int .i64 S.tick.to, .int .i64 S.tick.planned, sv] 97 (0, 0)) ∧ w3.cell? ⟨p, 1, none⟩ = some (.bool S.on) ∧ w3.frozen? ⟨p, 1, none⟩ = false ∧ w3.heap[p]? = some (.cells #[.int .i64 S.room, .bool S.on, .map (some ms), rv, .map (some mh), .int .i64 S.tick.strokes, .int .i64 S.off, .int .i64 S.from_, .int .i64 S.to, .int .i64 S.tick.planned, sv] 97 (0, 0))) := fun w3 hk3 b hb => by
  have hQ3 : w3.heap[p]? = _ := (hk3.block p (by have := hk2.size; have := h.lt; omega) (by simp)).trans hQ2
  have hQ4 := heap_setCell_same w3 p 1 _ _ (.bool b) hQ3
  subst hb
  have e5 : ((S.strokes : Int) + 1) = ((S.tick.strokes : Nat) : Int) := by simp [Ds.tick]
  have e9 : ((S.planned : Int) + 1) = ((S.tick.planned : Nat) : Int) := by simp [Ds.tick]
  rw [e5, e9] at hQ3 hQ4
  exact ⟨hQ4, by rw [cell_of_row w3 p 1 _ _ _ hQ3]; rfl, frozen_of_row w3 p 1 _ _ hQ3, hQ3⟩
 have HP := hide (And.intro h hk2)
 clear h hk1 hk2 hQ1 hQ2
 go_enter Tryz.func69, Tryz.ntmps69
 go_upto_region 2 with (fail)
 rw [← hw1]
 clear hw1 c5 f5
 go_upto_region 3 with (fail)
 rw [← hw2]
 clear hw2 c9 f9
 cases hgo : S.goesOff
 ·have hd : ((S.planned : Int) + 1 == S.off) = false := hgo
  have HG := hide hgo
  clear hgo
  go_quiet (fail)
  go_wp2
  go_ret
  have hk : Kept [] w2 (w2.drewN nq) := (Kept.refl [] w2).drewN nq
  have hon : S.tick.on = S.on := by simp [Ds.tick, HG.out]
  obtain ⟨_, _, _, hq⟩ := FIN.out _ hk _ rfl
  refine ⟨by unfold Ds.ans; rw [HG.out]; rfl, HP.out.1.recell (HP.out.2.kept hk) HP.out.1.wf.tick ?_ rfl rfl rfl rfl rfl rfl HP.out.1.pl, HP.out.2.kept hk⟩
  rw [hon]
  exact hq
 ·have hd : ((S.planned : Int) + 1 == S.off) = true := hgo
  have HG := hide hgo
  clear hgo
  go_quiet (fail)
  have hk : Kept [] w2 (w2.drewN nq) := (Kept.refl [] w2).drewN nq
  have hon : S.tick.on = false := by simp [Ds.tick, HG.out]
  obtain ⟨h4, k1, k2, _⟩ := FIN.out _ hk false hon
  have HH := hide (And.intro h4 (And.intro hk hon))
  clear h4 hk hon FIN
  generalize w2.drewN nq = w3 at HH k1 k2 ⊢
  go_wp2
  go_ret
  obtain ⟨h4, hk, hon⟩ := HH.out
  have hk5 : Keep (· = p) w (w3.setCell ⟨p, 1, none⟩ (.bool false)) := (HP.out.2.kept hk).setCell (p := ⟨p, 1, none⟩) (fun _ => rfl) _
  exact ⟨by unfold Ds.ans; rw [HG.out]; rfl, HP.out.1.recell hk5 HP.out.1.wf.tick h4 rfl rfl rfl rfl rfl rfl HP.out.1.pl, hk5⟩
end

end Go.Proofs.YtodihkdmneihiaaGreatDoor
