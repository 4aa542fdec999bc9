/-
  lay and Put where nothing is refused; Get. (Written by tools/fnd.py.)
-/
import Derived.Test.YtemlbmamcbmnjaaGreatDoorFncp
import Derived.Defers
import Derived.Recover
namespace Go.Proofs.YtemlbmamcbmnjaaGreatDoor
open Go.RowKit Dsk
set_option linter.unusedVariables false
set_option linter.unusedSimpArgs false

theorem forRoom_none (w : World) : Calls Tryz.prog 104 #[.nilIface] w fun e w' => e = .returned (.bool false) ∧ w' = w := by
  have c1 := is_none 55 w
  have c2 := is_none 56 w
  go_enter Tryz.func104, Tryz.ntmps104
  go_wp2_with (first
    | (go_at_call 76; refine c1.mono ?_; rintro e w' ⟨rfl, hww⟩; obtain rfl := hww.symm; clear c1)
    | (go_at_call 76; refine c2.mono ?_; rintro e w' ⟨rfl, hww⟩; obtain rfl := hww.symm; clear c2))
  go_ret
  exact ⟨rfl, rfl⟩

theorem lay1_fine (pb rb fb : Nat) (w : World) (h1 : w.cell? ⟨pb, 0, none⟩ = some (.pointer (some ⟨fb, 0, none⟩))) (h2 : w.cell? ⟨fb, 3, none⟩ = some (.bool true)) (h3 : w.cell? ⟨rb, 0, none⟩ = some .nilIface) :
    CallsD Tryz.prog 103 #[.pointer (some ⟨pb, 0, none⟩), .pointer (some ⟨rb, 0, none⟩)] .returning w fun e u' w' => u' = .returning ∧ (e = .returned (.tuple #[]) ∧ w' = w) := by
  have c1 := forRoom_none w
  go_enter_d Tryz.func103, Tryz.ntmps103
  go_wp2_with (go_at_call 104; refine c1.mono ?_; rintro e w' ⟨rfl, hww⟩; obtain rfl := hww.symm; clear c1)
  first | go_end0 | refine bodyPost_ret (results_none rfl _ _ _) rfl ?_
  exact ⟨rfl, rfl⟩
section
variable {X : Nat → Prop} {wa w w' : World} {p : Nat} {S : Ds} {N : Nat} {fb : Nat} {name plus : By} {c : Bool}
theorem leaves_congr {P : Program} {fn : Func} {t1 t2 : Array Value} {R : Ending → World → Prop} (h : results fn t1 = results fn t2) : ∀ (ds : List Deferred) (u : FrameMode) (w : World), Leaves P fn t1 R ds u w → Leaves P fn t2 R ds u w
  | [], .returning, w, ⟨v, h1, h2⟩ => ⟨v, h ▸ h1, h2⟩
  | [], .panicking _, _, h1 => h1
  | [], .run, _, h1 => h1
  | d :: ds, u, w, ⟨h1, fv, cap, f, args, h2, h3, h4⟩ => ⟨h1, fv, cap, f, args, h2, h3, h4.mono (fun e u' w' he => by
      cases e with
      | returned _ => exact leaves_congr h ds _ _ he
      | panicked _ => exact leaves_congr h ds _ _ he
      | outgrown => exact he)⟩
theorem layRes (t : Array Value) (k : Nat) (v : Value) (hk : k ≠ 4) : results Tryz.f64 (t.setIfInBounds k v) = results Tryz.f64 t := by
  simp [results, Tryz.results64, Array.getD]
  by_cases h : 4 < t.size <;> simp [h, Array.getElem_setIfInBounds, hk]
theorem layQ (R : Ending → World → Prop) (k : Nat) (v : Value) (hk : k ≠ 4) (ch : List PanicEntry) (a : Act) (w : World) (h : bodyPostD Tryz.prog Tryz.f64 R (.panic ch) (a.put (some k) v) w) : bodyPostD Tryz.prog Tryz.f64 R (.panic ch) a w :=
  leaves_congr (layRes a.tmps k v hk) a.defers _ w h
theorem set_same {w : World} {b : Nat} {v : Value} {T : TypeId} (h : w.heap[b]? = some (.cells #[v] T (0, 0))) : w.setCell ⟨b, 0, none⟩ v = w := by
  have hb := heap_setCell_same w b 0 #[v] T v h
  have hl := (Array.getElem?_eq_some_iff.1 h).1
  have hh : (w.setCell ⟨b, 0, none⟩ v).heap = w.heap := by
    apply Array.ext_getElem?
    intro i
    by_cases hi : i = b
    · subst hi
      rw [hb, h]
      rfl
    · by_cases hlt : i < w.heap.size
      · exact Below.heap_setCell _ _ _ _ hi
      · rw [Array.getElem?_eq_none (by simp; omega), Array.getElem?_eq_none (by omega)]
  cases w
  simp only [World.setCell] at hh ⊢
  simp_all
/-- What has come besides stays too. -/
theorem Drf.widen (h : Drf X wa w p S N fb name plus c) (hk : Kept [] w w') : Drf (More X w w') w' w' p S N fb name plus c := by
  have hfl := (Array.getElem?_eq_some_iff.1 h.cell).1
  have h2 := h.kept hk
  refine ⟨ax_free h.ax (Keep.ofNone (F := fun _ => False) hk) (fun _ _ h => h.elim) (fun b hb => ?_), h2.cell, Keep.refl _ _, fun hX => ?_, fun b hb => ?_⟩
  · rcases hb with (hb | hb) | hb
    · exact ⟨.inl (.inl hb), Nat.lt_of_lt_of_le (h.lt b hb) (Nat.le_trans h.keep.size hk.size)⟩
    · exact ⟨.inr hb.1, hb.2⟩
    · exact ⟨.inl (.inr hb), by rw [hb]; exact Nat.lt_of_lt_of_le hfl hk.size⟩
  · rcases hX with hX | hX
    · exact h.nx hX
    · omega
  · rcases hb with hb | hb
    · exact Nat.lt_of_lt_of_le (h.lt b hb) (Nat.le_trans h.keep.size hk.size)
    · exact hb.2
theorem Drf.narrow {w1 w2 : World} {S' : Ds} {N' : Nat} {c' : Bool} (h : Drf X wa w p S N fb name plus c) (hk : Kept [] w w1) (h2 : Drf (More X w w1) w1 w2 p S' N' fb name plus c') : Drf X wa w2 p S' N' fb name plus c' := by
  obtain ⟨A, o, g1, g2, g3, g4⟩ := h2.ax
  refine ⟨⟨A, o, g1, fun b hb => ⟨(g2 b (hb.imp .inl id)).1, (g2 b (hb.imp .inl id)).2⟩, Keep.refl _ _, g4⟩, h2.cell, (h.keep.kept hk).trans (h2.keep.mono (fun b hb _ hX => hb (.inl hX))) (fun b hb _ => hb), h.nx, h.lt⟩

set_option maxHeartbeats 4000000 in
set_option maxRecDepth 100000 in
theorem lay_fine (h : Drf X wa w p S N fb name plus c) {ao : Option Addr} {n cp : Nat} {d : By} (hN : N + n + 20 ≤ 268435456) (hpl : plus.length ≤ 4611686018427387904) (hnl : name.length ≤ 4611686018427387904) (hl : d.length = n) (hs : Sl w ao d) (h0a : ao = none → n = 0) (hnew : d ≠ [] → ∀ a, ao = some a → X a.block)
    (h53 : (S.find plus).1 = 53) (hc : (S.create plus).1 = 0) (e1 : ((S.create plus).2.append plus d).1 = 0) (e2 : (((S.create plus).2.append plus d).2.sync plus).1 = 0) (e3 : ((((S.create plus).2.append plus d).2.sync plus).2.rename plus name).1 = 0) (e4 : (((((S.create plus).2.append plus d).2.sync plus).2.rename plus name).2.syncNames).1 = 0) :
    Calls Tryz.prog 64 #[.pointer (some ⟨fb, 0, none⟩), .slice ao n cp] w fun e w' => e = .returned .nilIface ∧ Drf X wa w' p (((((S.create plus).2.append plus d).2.sync plus).2.rename plus name).2.syncNames).2 (N + n + 7) fb name plus true := by
  have hmf : ∀ (fn : Fn) (first cap : Array Value) (w : World), (Instr.makeFunc fn first cap).run Tryz.prog w = .ok (.func fn first cap) w := fun _ _ _ _ => rfl
  have hk1 : Kept [] w ((w.alloc (.cells #[.pointer (some ⟨fb, 0, none⟩)] 101)).alloc (.cells #[.nilIface] 44)) := ((Kept.refl [] w).alloc _).alloc _
  have hb1 : ((w.alloc (.cells #[.pointer (some ⟨fb, 0, none⟩)] 101)).alloc (.cells #[.nilIface] 44)).heap[w.heap.size]? = some (.cells #[.pointer (some ⟨fb, 0, none⟩)] 101 (0, 0)) := by
    rw [Below.heap_alloc _ _ _ (by simp)]
    exact (MapKept.heap_alloc w _).1
  have hb2 : ((w.alloc (.cells #[.pointer (some ⟨fb, 0, none⟩)] 101)).alloc (.cells #[.nilIface] 44)).heap[w.heap.size + 1]? = some (.cells #[.nilIface] 44 (0, 0)) := by
    have := (MapKept.heap_alloc (w.alloc (.cells #[.pointer (some ⟨fb, 0, none⟩)] 101)) (.cells #[.nilIface] 44)).1
    simpa using this
  have hsz : ((w.alloc (.cells #[.pointer (some ⟨fb, 0, none⟩)] 101)).alloc (.cells #[.nilIface] 44)).heap.size = w.heap.size + 2 := by simp
  have HH := hide h
  have HS := hide (hs.kept hk1 (by simp))
  have HNW := hide hnew
  have H0A := hide h0a
  have HE := hide (And.intro e1 (And.intro e2 (And.intro e3 e4)))
  have H53 := hide h53
  have HC := hide hc
  have HPL := hide hl
  clear h hs hnew h0a e1 e2 e3 e4 h53 hc
  go_enter_defers Tryz.func64, Tryz.ntmps64
  go_upto_region 2 with (fail)
  generalize (w.alloc (.cells #[.pointer (some ⟨fb, 0, none⟩)] 101)).alloc (.cells #[.nilIface] 44) = w1 at hk1 hb1 hb2 hsz HS ⊢
  have HK1 := hide hk1
  have HB1 := hide hb1
  have HB2 := hide hb2
  have HSZ := hide hsz
  have q1 : w1.cell? ⟨w.heap.size, 0, none⟩ = some (.pointer (some ⟨fb, 0, none⟩)) := by rw [cell_of_row _ _ _ _ _ _ hb1]; rfl
  have HW := hide (HH.out.widen hk1)
  have hbg := begin_fine HW.out (by omega) hpl H53.out HC.out
  clear hk1 hb1 hb2 hsz
  go_upto_region 5 with (go_at_call 106; refine hbg.mono ?_; rintro e w2 ⟨rfl, hd⟩; have HD := hide hd; clear hbg hd)
  clear q1
  have hkp : Keep (fun b => ¬ (More X w w1) b) w1 w2 := HD.out.keep
  have p1 : w2.heap[w.heap.size]? = _ := hkp.heapOf HB1.out (fun hn => hn (.inr ⟨Nat.le_refl _, by rw [HSZ.out]; omega⟩))
  have p2 : w2.heap[w.heap.size + 1]? = _ := hkp.heapOf HB2.out (fun hn => hn (.inr ⟨by omega, by rw [HSZ.out]; omega⟩))
  have q1 : w2.cell? ⟨w.heap.size, 0, none⟩ = some (.pointer (some ⟨fb, 0, none⟩)) := by rw [cell_of_row _ _ _ _ _ _ p1]; rfl
  have q2 := HD.out.k1
  have HSl := hide (HS.out.keep hkp (fun hd a ha hn => hn (.inl (HNW.out hd a ha))))
  refine wp_region_held_drew (S := fun w' => w'.cell? ⟨w.heap.size, 0, none⟩ = some (.pointer (some ⟨fb, 0, none⟩)) ∧ w'.cell? ⟨fb, 1, none⟩ = some (encStr name)) (by kernel_rfl) ⟨q1, q2⟩ (fun h0 => ?_)
  have k0 : Kept [] w2 w2.drew := (Kept.refl [] w2).drew
  generalize World.drew w2 = v0 at h0 k0 ⊢
  refine wpAnyH_take (i := 0) (v := .pointer (some ⟨fb, 0, none⟩)) rfl (by kernel_rfl) (by kernel_rfl) (by kernel_rfl) (fun _ _ _ h => layQ _ 17 _ (by decide) _ _ _ h) (Or.inl ⟨by rfl, fun w hSw => by have c := hSw.1; go_simp⟩) h0 ?_
  try simp only [List.getElem_toArray, List.getElem_cons_zero, List.getElem_cons_succ, Act.put, List.setIfInBounds_toArray, List.set_cons_zero, List.set_cons_succ]
  refine wpAnyH_take (i := 1) (v := .pointer (some ⟨fb, 0, none⟩)) rfl (by kernel_rfl) (by kernel_rfl) (by kernel_rfl) (fun _ _ _ h => layQ _ 18 _ (by decide) _ _ _ h) (Or.inl ⟨by rfl, fun w hSw => by go_simp⟩) h0 ?_
  try simp only [List.getElem_toArray, List.getElem_cons_zero, List.getElem_cons_succ, Act.put, List.setIfInBounds_toArray, List.set_cons_zero, List.set_cons_succ]
  refine wpAnyH_take (i := 2) (v := .pointer (some ⟨fb, 1, none⟩)) rfl (by kernel_rfl) (by kernel_rfl) (by kernel_rfl) (fun _ _ _ h => layQ _ 19 _ (by decide) _ _ _ h) (Or.inl ⟨by rfl, fun w hSw => by go_simp⟩) h0 ?_
  try simp only [List.getElem_toArray, List.getElem_cons_zero, List.getElem_cons_succ, Act.put, List.setIfInBounds_toArray, List.set_cons_zero, List.set_cons_succ]
  refine wpAnyH_take (i := 3) (v := encStr name) rfl (by kernel_rfl) (by kernel_rfl) (by kernel_rfl) (fun _ _ _ h => layQ _ 20 _ (by decide) _ _ _ h) (Or.inl ⟨by rfl, fun w hSw => by have c := hSw.2; go_simp⟩) h0 ?_
  try simp only [List.getElem_toArray, List.getElem_cons_zero, List.getElem_cons_succ, Act.put, List.setIfInBounds_toArray, List.set_cons_zero, List.set_cons_succ]
  refine wpAnyH_take (i := 4) (v := .pointer (some ⟨fb, 0, none⟩)) rfl (by kernel_rfl) (by kernel_rfl) (by kernel_rfl) (fun _ _ _ h => layQ _ 21 _ (by decide) _ _ _ h) (Or.inl ⟨by rfl, fun w hSw => by have c := hSw.1; go_simp⟩) h0 ?_
  try simp only [List.getElem_toArray, List.getElem_cons_zero, List.getElem_cons_succ, Act.put, List.setIfInBounds_toArray, List.set_cons_zero, List.set_cons_succ]
  refine wpAnyH_take (i := 5) (v := .slice ao n cp) rfl (by kernel_rfl) (by kernel_rfl) (by kernel_rfl) (fun _ _ _ h => layQ _ 22 _ (by decide) _ _ _ h) (Or.inl ⟨by rfl, fun w hSw => by go_simp⟩) h0 ?_
  try simp only [List.getElem_toArray, List.getElem_cons_zero, List.getElem_cons_succ, Act.put, List.setIfInBounds_toArray, List.set_cons_zero, List.set_cons_succ]
  have hfi := finish_fine (HD.out.kept k0) (ao := ao) (cp := cp) (by omega) hpl hnl HPL.out (HSl.out.kept k0 (by simp)) H0A.out (fun hd a ha => .inl (HNW.out hd a ha)) HE.out.1 HE.out.2.1 HE.out.2.2.1 HE.out.2.2.2
  refine wpAnyH_ready (rs := [6]) (by kernel_rfl) (by simp) (AllReadyH.cons (i := 6) rfl (fun K' hK => ?_) AllReadyH.nil)
  rw [if_pos (by rfl)]
  go_simp
  refine hfi.mono ?_
  rintro e w3 ⟨rfl, hd3⟩
  have HD3 := hide hd3
  have hkq3 : Keep (fun b => ¬ (More X w w1) b) w1 w3 := hd3.keep
  have r13 : w3.heap[w.heap.size]? = _ := hkq3.heapOf HB1.out (fun hn => hn (.inr ⟨Nat.le_refl _, by rw [HSZ.out]; omega⟩))
  refine hK.out _ _ ⟨by rw [cell_of_row _ _ _ _ _ _ r13]; rfl, hd3.k1⟩ (fun h1 => ?_)
  clear hK K' hfi hd3 hkq3 r13
  try simp only [List.getElem_toArray, List.getElem_cons_zero, List.getElem_cons_succ, Act.put, List.setIfInBounds_toArray, List.set_cons_zero, List.set_cons_succ]
  have hfa := fault_ok [102, 105, 108, 101, 46, 112, 117, 116] name 0 w3
  refine wpAnyH_ready (rs := [7]) (by kernel_rfl) (by simp) (AllReadyH.cons (i := 7) rfl (fun K' hK => ?_) AllReadyH.nil)
  rw [if_pos (by rfl)]
  go_simp
  refine hfa.mono ?_
  rintro e w4 ⟨v, rfl, hv, hk4⟩
  obtain rfl : v = .nilIface := by rcases hv with hv | hv; exact hv.2; exact absurd rfl hv.1
  have HD4 := hide (HD3.out.kept hk4)
  refine hK.out _ _ ⟨hk4.cellOf h1.1 (by simp), hk4.cellOf h1.2 (by simp)⟩ (fun h2 => ?_)
  clear hK K' hfa hv hk4
  try simp only [List.getElem_toArray, List.getElem_cons_zero, List.getElem_cons_succ, Act.put, List.setIfInBounds_toArray, List.set_cons_zero, List.set_cons_succ]
  have hkq : Keep (fun b => ¬ (More X w w1) b) w1 w4 := HD4.out.keep
  have r1 : w4.heap[w.heap.size]? = _ := hkq.heapOf HB1.out (fun hn => hn (.inr ⟨Nat.le_refl _, by rw [HSZ.out]; omega⟩))
  have r2 : w4.heap[w.heap.size + 1]? = _ := hkq.heapOf HB2.out (fun hn => hn (.inr ⟨by omega, by rw [HSZ.out]; omega⟩))
  have s2 : w4.cell? ⟨w.heap.size + 1, 0, none⟩ = some .nilIface := by rw [cell_of_row _ _ _ _ _ _ r2]; rfl
  have s3 : w4.frozen? ⟨w.heap.size + 1, 0, none⟩ = false := frozen_of_row _ _ _ _ _ r2
  have hset : w4.setCell ⟨w.heap.size + 1, 0, none⟩ .nilIface = w4 := set_same r2
  refine wpAnyH_ready (rs := [8]) (by kernel_rfl) (by simp) (AllReadyH.cons (i := 8) rfl (fun K' hK => ?_) AllReadyH.nil)
  rw [if_pos (by rfl)]
  go_simp
  try rw [hset]
  refine hK.out _ _ h2 (fun h3 => ?_)
  clear hK K'
  try simp only [List.getElem_toArray, List.getElem_cons_zero, List.getElem_cons_succ, Act.put, List.setIfInBounds_toArray, List.set_cons_zero, List.set_cons_succ]
  refine wpAnyH_done (by kernel_rfl) ?_ _
  go_wp2
  have l1 : w4.cell? ⟨w.heap.size, 0, none⟩ = some (.pointer (some ⟨fb, 0, none⟩)) := by rw [cell_of_row _ _ _ _ _ _ r1]; rfl
  refine leaves_cons (f := 103) (args := #[.pointer (some ⟨w.heap.size, 0, none⟩), .pointer (some ⟨w.heap.size + 1, 0, none⟩)]) (by simp) (by simp [go_sem]) ?_
  refine (lay1_fine w.heap.size (w.heap.size + 1) fb w4 l1 HD4.out.k3 s2).mono ?_
  rintro e u' w'' ⟨rfl, rfl, rfl⟩
  simp [Leaves, settle, results, Tryz.results64, go_sem, s2]
  exact (HH.out.narrow HK1.out HD4.out).mono (by omega)
end
end Go.Proofs.YtemlbmamcbmnjaaGreatDoor
