import Derived.Test.YtodihkdmneihiaaGreatDoorFncp
import Derived.Defers
import Derived.Recover
import Derived.Scope
namespace Go.Proofs.YtodihkdmneihiaaGreatDoor
section
open Go.RowKit Dsk
set_option linter.unusedVariables false
set_option linter.unusedSimpArgs false
theorem forRoom_none (w : World) : Calls Tryz.prog 95 #[.nilIface] w fun e w' => e = .returned (.bool false) ∧ w' = w := by
 have c1 := is_none 55 w
 have c2 := is_none 56 w
 go_enter Tryz.func95, Tryz.ntmps95
 go_wp2_with (first
  | (go_at_call 57; refine c1.mono ?_; rintro e w' ⟨rfl, hww⟩; obtain rfl := hww.symm; clear c1)
  | (go_at_call 57; refine c2.mono ?_; rintro e w' ⟨rfl, hww⟩; obtain rfl := hww.symm; clear c2))
 go_ret
 exact ⟨rfl, rfl⟩
theorem lay1_fine (pb rb fb : Nat) (w : World) (h1 : w.cell? ⟨pb, 0, none⟩ = some (.pointer (some ⟨fb, 0, none⟩))) (h2 : w.cell? ⟨fb, 3, none⟩ = some (.bool true)) (h3 : w.cell? ⟨rb, 0, none⟩ = some .nilIface) :
  CallsD Tryz.prog 94 #[.pointer (some ⟨pb, 0, none⟩), .pointer (some ⟨rb, 0, none⟩)] .returning w fun e u' w' => u' = .returning ∧ (e = .returned (.tuple #[]) ∧ w' = w) := by
 have c1 := forRoom_none w
 go_enter_d Tryz.func94, Tryz.ntmps94
 go_wp2_with (go_at_call 95; refine c1.mono ?_; rintro e w' ⟨rfl, hww⟩; obtain rfl := hww.symm; clear c1)
 first | go_end0 | refine bodyPost_ret (results_none rfl _ _ _) rfl ?_
 exact ⟨rfl, rfl⟩
section
variable {X : Nat → Prop} {wa w w' : World} {p : Nat} {S : Ds} {N : Nat} {fb : Nat} {name plus : By} {c : Bool}
theorem leaves_congr {P : Program} {fn : Func} {t1 t2 : Array Value} {R : Ending → World → Prop} (h : results fn t1 = results fn t2) : ∀ (ds : List Deferred) (u : FrameMode) (w : World), Leaves P fn t1 R ds u w → Leaves P fn t2 R ds u w
 | [], .returning, w, ⟨v, h1, h2⟩ => ⟨v, h ▸ h1, h2⟩
 | [], .panicking _, _, h1 => h1
 | [], .run, _, h1 => h1
 | d :: ds, u, w, ⟨h1, fv, cap, f, args, h2, h3, h4⟩ => ⟨h1, fv, cap, f, args, h2, h3, h4.mono (fun e u' w' he => by
   cases e with
   | returned _ => exact leaves_congr h ds _ _ he
   | panicked _ => exact leaves_congr h ds _ _ he
   | outgrown => exact he)⟩
theorem layRes (t : Array Value) (k : Nat) (v : Value) (hk : k ≠ 4) : results Tryz.f52 (t.setIfInBounds k v) = results Tryz.f52 t := by
 simp [results, Tryz.results52, Array.getD]
 by_cases h : 4 < t.size <;> simp [h, Array.getElem_setIfInBounds, hk]
theorem layQ (R : Ending → World → Prop) (k : Nat) (v : Value) (hk : k ≠ 4) (ch : List PanicEntry) (a : Act) (w : World) (h : bodyPostD Tryz.prog Tryz.f52 R (.panic ch) (a.put (some k) v) w) : bodyPostD Tryz.prog Tryz.f52 R (.panic ch) a w :=
 leaves_congr (layRes a.tmps k v hk) a.defers _ w h
theorem set_same {w : World} {b : Nat} {v : Value} {T : TypeId} (h : w.heap[b]? = some (.cells #[v] T (0, 0))) : w.setCell ⟨b, 0, none⟩ v = w := by
 have hb := heap_setCell_same w b 0 #[v] T v h
 have hl := (Array.getElem?_eq_some_iff.1 h).1
 have hh : (w.setCell ⟨b, 0, none⟩ v).heap = w.heap := by
  apply Array.ext_getElem?
  intro i
  by_cases hi : i = b
  ·subst hi
   rw [hb, h]
   rfl
  ·by_cases hlt : i < w.heap.size
   ·exact Below.heap_setCell _ _ _ _ hi
   ·rw [Array.getElem?_eq_none (by simp; omega), Array.getElem?_eq_none (by omega)]
 cases w
 simp only [World.setCell] at hh ⊢
 simp_all
theorem Drf.widen (h : Drf X wa w p S N fb name plus c) (hk : Kept [] w w') : Drf (More X w w') w' w' p S N fb name plus c := by
 have hfl := (Array.getElem?_eq_some_iff.1 h.cell).1
 have h2 := h.kept hk
 refine ⟨ax_free h.ax (Keep.ofNone (F := fun _ => False) hk) (fun _ _ h => h.elim) (fun b hb => ?_), h2.cell, Keep.refl _ _, fun hX => ?_, fun b hb => ?_⟩
 ·rcases hb with (hb | hb) | hb
  ·exact ⟨.inl (.inl hb), Nat.lt_of_lt_of_le (h.lt b hb) (Nat.le_trans h.keep.size hk.size)⟩
  ·exact ⟨.inr hb.1, hb.2⟩
  ·exact ⟨.inl (.inr hb), by rw [hb]; exact Nat.lt_of_lt_of_le hfl hk.size⟩
 ·rcases hX with hX | hX
  ·exact h.nx hX
  ·omega
 ·rcases hb with hb | hb
  ·exact Nat.lt_of_lt_of_le (h.lt b hb) (Nat.le_trans h.keep.size hk.size)
  ·exact hb.2
theorem Drf.narrow {w1 w2 : World} {S' : Ds} {N' : Nat} {c' : Bool} (h : Drf X wa w p S N fb name plus c) (hk : Kept [] w w1) (h2 : Drf (More X w w1) w1 w2 p S' N' fb name plus c') : Drf X wa w2 p S' N' fb name plus c' := by
 obtain ⟨A, o, g1, g2, g3, g4⟩ := h2.ax
 refine ⟨⟨A, o, g1, fun b hb => ⟨(g2 b (hb.imp .inl id)).1, (g2 b (hb.imp .inl id)).2⟩, Keep.refl _ _, g4⟩, h2.cell, (h.keep.kept hk).trans (h2.keep.mono (fun b hb _ hX => hb (.inl hX))) (fun b hb _ => hb), h.nx, h.lt⟩
set_option maxHeartbeats 4000000 in
set_option maxRecDepth 100000 in
theorem lay_fine (h : Drf X wa w p S N fb name plus c) {ao : Option Addr} {n cp : Nat} {d : By} (hN : N + n + 20 ≤ 268435456) (hpl : plus.length ≤ 4611686018427387904) (hnl : name.length ≤ 4611686018427387904) (hl : d.length = n) (hs : Sl w ao d) (h0a : ao = none → n = 0) (hnew : d ≠ [] → ∀ a, ao = some a → X a.block)
  (h53 : (S.find plus).1 = 53) (hc : (S.create plus).1 = 0) (e1 : ((S.create plus).2.append plus d).1 = 0) (e2 : (((S.create plus).2.append plus d).2.sync plus).1 = 0) (e3 : ((((S.create plus).2.append plus d).2.sync plus).2.rename plus name).1 = 0) (e4 : (((((S.create plus).2.append plus d).2.sync plus).2.rename plus name).2.syncNames).1 = 0) :
  Calls Tryz.prog 52 #[.pointer (some ⟨fb, 0, none⟩), .slice ao n cp] w fun e w' => e = .returned .nilIface ∧ Drf X wa w' p (((((S.create plus).2.append plus d).2.sync plus).2.rename plus name).2.syncNames).2 (N + n + 7) fb name plus true := by
 have hmf : ∀ (fn : Fn) (first cap : Array Value) (w : World), (Instr.makeFunc fn first cap).run Tryz.prog w = .ok (.func fn first cap) w := fun _ _ _ _ => rfl
 have hk1 : Kept [] w ((w.alloc (.cells #[.pointer (some ⟨fb, 0, none⟩)] 84)).alloc (.cells #[.nilIface] 46)) := ((Kept.refl [] w).alloc _).alloc _
 have hb1 : ((w.alloc (.cells #[.pointer (some ⟨fb, 0, none⟩)] 84)).alloc (.cells #[.nilIface] 46)).heap[w.heap.size]? = some (.cells #[.pointer (some ⟨fb, 0, none⟩)] 84 (0, 0)) := by
  rw [Below.heap_alloc _ _ _ (by simp)]
  exact (MapKept.heap_alloc w _).1
 have hb2 : ((w.alloc (.cells #[.pointer (some ⟨fb, 0, none⟩)] 84)).alloc (.cells #[.nilIface] 46)).heap[w.heap.size + 1]? = some (.cells #[.nilIface] 46 (0, 0)) := by
  have := (MapKept.heap_alloc (w.alloc (.cells #[.pointer (some ⟨fb, 0, none⟩)] 84)) (.cells #[.nilIface] 46)).1
  simpa using this
 have hsz : ((w.alloc (.cells #[.pointer (some ⟨fb, 0, none⟩)] 84)).alloc (.cells #[.nilIface] 46)).heap.size = w.heap.size + 2 := by simp
 have HH := hide h
 have HS := hide (hs.kept hk1 (by simp))
 have HNW := hide hnew
 have H0A := hide h0a
 have HE := hide (And.intro e1 (And.intro e2 (And.intro e3 e4)))
 have H53 := hide h53
 have HC := hide hc
 have HPL := hide hl
 clear h hs hnew h0a e1 e2 e3 e4 h53 hc
 go_enter_defers Tryz.func52, Tryz.ntmps52
 go_upto_region 2 with (fail)
 generalize (w.alloc (.cells #[.pointer (some ⟨fb, 0, none⟩)] 84)).alloc (.cells #[.nilIface] 46) = w1 at hk1 hb1 hb2 hsz HS ⊢
 have HK1 := hide hk1
 have HB1 := hide hb1
 have HB2 := hide hb2
 have HSZ := hide hsz
 have q1 : w1.cell? ⟨w.heap.size, 0, none⟩ = some (.pointer (some ⟨fb, 0, none⟩)) := by rw [cell_of_row _ _ _ _ _ _ hb1]; rfl
 have HW := hide (HH.out.widen hk1)
 have hbg := begin_fine HW.out (by omega) hpl H53.out HC.out
 clear hk1 hb1 hb2 hsz
 go_upto_region 5 with (go_at_call 97; refine hbg.mono ?_; rintro e w2 ⟨rfl, hd⟩; have HD := hide hd; clear hbg hd)
 clear q1
 have hkp : Keep (fun b => ¬ (More X w w1) b) w1 w2 := HD.out.keep
 have p1 : w2.heap[w.heap.size]? = _ := hkp.heapOf HB1.out (fun hn => hn (.inr ⟨Nat.le_refl _, by rw [HSZ.out]; omega⟩))
 have p2 : w2.heap[w.heap.size + 1]? = _ := hkp.heapOf HB2.out (fun hn => hn (.inr ⟨by omega, by rw [HSZ.out]; omega⟩))
 have q1 : w2.cell? ⟨w.heap.size, 0, none⟩ = some (.pointer (some ⟨fb, 0, none⟩)) := by rw [cell_of_row _ _ _ _ _ _ p1]; rfl
 have q2 := HD.out.k1
 have HSl := hide (HS.out.keep hkp (fun hd a ha hn => hn (.inl (HNW.out hd a ha))))
 refine wp_region_held_drew (S := fun w' => w'.cell? ⟨w.heap.size, 0, none⟩ = some (.pointer (some ⟨fb, 0, none⟩)) ∧ w'.cell? ⟨fb, 1, none⟩ = some (encStr name)) (by kernel_rfl) ⟨q1, q2⟩ (fun h0 => ?_)
 have k0 : Kept [] w2 w2.drew := (Kept.refl [] w2).drew
 generalize World.drew w2 = v0 at h0 k0 ⊢
 refine wpAnyH_take (i := 0) (v := .pointer (some ⟨fb, 0, none⟩)) rfl (by kernel_rfl) (by kernel_rfl) (by kernel_rfl) (fun _ _ _ h => layQ _ 17 _ (by decide) _ _ _ h) (Or.inl ⟨by rfl, fun w hSw => by have c := hSw.1; go_simp⟩) h0 ?_
 try simp only [z1, z2, z3, z4, z5, z6, z7, z8]
 refine wpAnyH_take (i := 1) (v := .pointer (some ⟨fb, 0, none⟩)) rfl (by kernel_rfl) (by kernel_rfl) (by kernel_rfl) (fun _ _ _ h => layQ _ 18 _ (by decide) _ _ _ h) (Or.inl ⟨by rfl, fun w hSw => by go_simp⟩) h0 ?_
 try simp only [z1, z2, z3, z4, z5, z6, z7, z8]
 refine wpAnyH_take (i := 2) (v := .pointer (some ⟨fb, 1, none⟩)) rfl (by kernel_rfl) (by kernel_rfl) (by kernel_rfl) (fun _ _ _ h => layQ _ 19 _ (by decide) _ _ _ h) (Or.inl ⟨by rfl, fun w hSw => by go_simp⟩) h0 ?_
 try simp only [z1, z2, z3, z4, z5, z6, z7, z8]
 refine wpAnyH_take (i := 3) (v := encStr name) rfl (by kernel_rfl) (by kernel_rfl) (by kernel_rfl) (fun _ _ _ h => layQ _ 20 _ (by decide) _ _ _ h) (Or.inl ⟨by rfl, fun w hSw => by have c := hSw.2; go_simp⟩) h0 ?_
 try simp only [z1, z2, z3, z4, z5, z6, z7, z8]
 refine wpAnyH_take (i := 4) (v := .pointer (some ⟨fb, 0, none⟩)) rfl (by kernel_rfl) (by kernel_rfl) (by kernel_rfl) (fun _ _ _ h => layQ _ 21 _ (by decide) _ _ _ h) (Or.inl ⟨by rfl, fun w hSw => by have c := hSw.1; go_simp⟩) h0 ?_
 try simp only [z1, z2, z3, z4, z5, z6, z7, z8]
 refine wpAnyH_take (i := 5) (v := .slice ao n cp) rfl (by kernel_rfl) (by kernel_rfl) (by kernel_rfl) (fun _ _ _ h => layQ _ 22 _ (by decide) _ _ _ h) (Or.inl ⟨by rfl, fun w hSw => by go_simp⟩) h0 ?_
 try simp only [z1, z2, z3, z4, z5, z6, z7, z8]
 have hfi := finish_fine (HD.out.kept k0) (ao := ao) (cp := cp) (by omega) hpl hnl HPL.out (HSl.out.kept k0 (by simp)) H0A.out (fun hd a ha => .inl (HNW.out hd a ha)) HE.out.1 HE.out.2.1 HE.out.2.2.1 HE.out.2.2.2
 refine wpAnyH_ready (rs := [6]) (by kernel_rfl) (by simp) (AllReadyH.cons (i := 6) rfl (fun K' hK => ?_) AllReadyH.nil)
 rw [if_pos (by rfl)]
 go_simp
 refine hfi.mono ?_
 rintro e w3 ⟨rfl, hd3⟩
 have HD3 := hide hd3
 have hkq3 : Keep (fun b => ¬ (More X w w1) b) w1 w3 := hd3.keep
 have r13 : w3.heap[w.heap.size]? = _ := hkq3.heapOf HB1.out (fun hn => hn (.inr ⟨Nat.le_refl _, by rw [HSZ.out]; omega⟩))
 refine hK.out _ _ ⟨by rw [cell_of_row _ _ _ _ _ _ r13]; rfl, hd3.k1⟩ (fun h1 => ?_)
 clear hK K' hfi hd3 hkq3 r13
 try simp only [z1, z2, z3, z4, z5, z6, z7, z8]
 have hfa := fault_ok [102, 105, 108, 101, 46, 112, 117, 116] name 0 w3
 refine wpAnyH_ready (rs := [7]) (by kernel_rfl) (by simp) (AllReadyH.cons (i := 7) rfl (fun K' hK => ?_) AllReadyH.nil)
 rw [if_pos (by rfl)]
 go_simp
 refine hfa.mono ?_
 rintro e w4 ⟨v, rfl, hv, hk4⟩
 obtain rfl : v = .nilIface := by rcases hv with hv | hv; exact hv.2; exact absurd rfl hv.1
 have HD4 := hide (HD3.out.kept hk4)
 refine hK.out _ _ ⟨hk4.cellOf h1.1 (by simp), hk4.cellOf h1.2 (by simp)⟩ (fun h2 => ?_)
 clear hK K' hfa hv hk4
 try simp only [z1, z2, z3, z4, z5, z6, z7, z8]
 have hkq : Keep (fun b => ¬ (More X w w1) b) w1 w4 := HD4.out.keep
 have r1 : w4.heap[w.heap.size]? = _ := hkq.heapOf HB1.out (fun hn => hn (.inr ⟨Nat.le_refl _, by rw [HSZ.out]; omega⟩))
 have r2 : w4.heap[w.heap.size + 1]? = _ := hkq.heapOf HB2.out (fun hn => hn (.inr ⟨by omega, by rw [HSZ.out]; omega⟩))
 have s2 : w4.cell? ⟨w.heap.size + 1, 0, none⟩ = some .nilIface := by rw [cell_of_row _ _ _ _ _ _ r2]; rfl
 have s3 : w4.frozen? ⟨w.heap.size + 1, 0, none⟩ = false := frozen_of_row _ _ _ _ _ r2
 have hset : w4.setCell ⟨w.heap.size + 1, 0, none⟩ .nilIface = w4 := set_same r2
 refine wpAnyH_ready (rs := [8]) (by kernel_rfl) (by simp) (AllReadyH.cons (i := 8) rfl (fun K' hK => ?_) AllReadyH.nil)
 rw [if_pos (by rfl)]
 go_simp
 try rw [hset]
 refine hK.out _ _ h2 (fun h3 => ?_)
 clear hK K'
 try simp only [z1, z2, z3, z4, z5, z6, z7, z8]
 refine wpAnyH_done (by kernel_rfl) ?_ _
 go_wp2
 have l1 : w4.cell? ⟨w.heap.size, 0, none⟩ = some (.pointer (some ⟨fb, 0, none⟩)) := by rw [cell_of_row _ _ _ _ _ _ r1]; rfl
 refine leaves_cons (f := 94) (args := #[.pointer (some ⟨w.heap.size, 0, none⟩), .pointer (some ⟨w.heap.size + 1, 0, none⟩)]) (by simp) (by simp [go_sem]) ?_
 refine (lay1_fine w.heap.size (w.heap.size + 1) fb w4 l1 HD4.out.k3 s2).mono ?_
 rintro e u' w'' ⟨rfl, rfl, rfl⟩
 simp [Leaves, settle, results, Tryz.results52, go_sem, s2]
 exact (HH.out.narrow HK1.out HD4.out).mono (by omega)
end
end

section
open Go.RowKit Dsk
set_option linter.unusedVariables false
set_option linter.unusedSimpArgs false
abbrev opPut : By := [102, 105, 108, 101, 46, 112, 117, 116]
abbrev opGet : By := [102, 105, 108, 101, 46, 103, 101, 116]
abbrev opDrop : By := [102, 105, 108, 101, 46, 100, 114, 111, 112]
abbrev opClean : By := [102, 105, 108, 101, 46, 99, 108, 101, 97, 110]
theorem get_bad (dv : Value) (name : By) (z E : Int) (w : World) (hm : name.length ≤ 4611686018427387900) (hp : isNm name = true) (hE : E ≠ 0) (hsz : Calls Tryz.prog 54 #[dv, encStr name] w fun e w' => e = .returned (.tuple #[.int .i64 z, .int .i64 E]) ∧ w' = w) :
  Calls Tryz.prog 13 #[dv, encStr name] w fun e w' => ∃ v, e = .returned (.tuple #[.slice none 0 0, v]) ∧ ErrV w' v opGet name E ∧ Kept [] w w' := by
 have c1 := fisName_ok name w (by omega)
 rw [hp] at c1
 have c2 := fault_ok opGet name E w
 have hb : (E != 0) = true := by simpa using hE
 clear hE
 go_enter Tryz.func13, Tryz.ntmps13
 go_wp2_with (first
  | (go_at_call 53; refine c1.mono ?_; rintro e w' ⟨rfl, hww⟩; obtain rfl := hww.symm; clear c1)
  | (go_at_call 54; refine hsz.mono ?_; rintro e w' ⟨rfl, hww⟩; obtain rfl := hww.symm; clear hsz)
  | (go_at_call 51; refine c2.mono ?_; rintro e w' ⟨v, rfl, hv⟩; have HV := hide hv; clear c2 hv))
 go_ret2
 exact ⟨_, rfl, HV.out⟩
section
variable {X : Nat → Prop} {wa w w' : World} {p : Nat} {S : Ds} {N : Nat}
set_option maxHeartbeats 4000000 in
set_option maxRecDepth 100000 in
theorem put_fine (h : Ax X wa w p S N) (name : By) {ao : Option Addr} {n cp : Nat} {d : By} (hN : N + n + 20 ≤ 268435456) (hm : name.length ≤ 4611686018427387900) (hl : d.length = n) (hs : Sl w ao d) (h0a : ao = none → n = 0) (hnew : d ≠ [] → ∀ a, ao = some a → X a.block)
  (hp : isPut name = true) (hon : S.on = true) (h53 : (S.find (43 :: name)).1 = 53) (hc : (S.create (43 :: name)).1 = 0) (e1 : ((S.create (43 :: name)).2.append (43 :: name) d).1 = 0) (e2 : (((S.create (43 :: name)).2.append (43 :: name) d).2.sync (43 :: name)).1 = 0) (e3 : ((((S.create (43 :: name)).2.append (43 :: name) d).2.sync (43 :: name)).2.rename (43 :: name) name).1 = 0) (e4 : (((((S.create (43 :: name)).2.append (43 :: name) d).2.sync (43 :: name)).2.rename (43 :: name) name).2.syncNames).1 = 0) :
  Calls Tryz.prog 12 #[.pointer (some ⟨p, 0, none⟩), encStr name, .slice ao n cp] w fun e w' => e = .returned .nilIface ∧ Ax X wa w' p (((((S.create (43 :: name)).2.append (43 :: name) d).2.sync (43 :: name)).2.rename (43 :: name) name).2.syncNames).2 (N + n + 7) := by
 have c1 := isPutName_ok name w hm
 rw [hp] at c1
 have hof := off_ax h
 rw [hon] at hof
 have hcat : ¬ (9223372036854775807 < 1 + name.length) := by omega
 have hcat2 : ¬ ((9223372036854775807 : Int) < 1 + (name.length : Int)) := by omega
 have hcc : (ByteArray.mk #[43] ++ ByteArray.mk name.toArray) = ByteArray.mk (43 :: name).toArray := by apply ByteArray.ext; simp [ByteArray.data_append]
 have hd := Drf.begin h name (43 :: name)
 have hk : Kept [] w (w.alloc (.cells #[.pointer (some ⟨p, 0, none⟩), encStr name, encStr (43 :: name), .bool false] 86)) := (Kept.refl [] w).alloc _
 have hla := lay_fine hd (ao := ao) (cp := cp) hN (by simp; omega) (by omega) hl (hs.kept hk (by simp)) h0a hnew h53 hc e1 e2 e3 e4
 clear hd hk h hs hnew h0a hon h53 hc e1 e2 e3 e4 hp
 go_enter Tryz.func12, Tryz.ntmps12
 go_wp2_with (first
  | (go_at_call 50; refine c1.mono ?_; rintro e w' ⟨rfl, hww⟩; obtain rfl := hww.symm; clear c1)
  | (go_at_call 41; refine hof.mono ?_; rintro e w' ⟨rfl, hww⟩; obtain rfl := hww.symm; clear hof)
  | (go_at_call 52; refine hla.mono ?_; rintro e w2 ⟨rfl, hd2⟩; have HD := hide hd2; clear hla hd2))
 go_ret
 exact ⟨rfl, HD.out.end⟩
set_option maxHeartbeats 4000000 in
set_option maxRecDepth 100000 in
theorem get_fine (h : Ax X wa w p S N) (name : By) (hN : N + 20 ≤ 268435456) (hm : name.length ≤ 4611686018427387900) (hp : isNm name = true) (hf : (S.find name).1 = 0) :
  Calls Tryz.prog 13 #[.pointer (some ⟨p, 0, none⟩), encStr name] w fun e w' => ∃ v, e = .returned (.tuple #[v, .nilIface]) ∧ Ax X wa w' p (S.read name 0 (S.size name)) (N + 1) ∧ OwnB w' v (S.readBytes name 0 (S.size name)).length (S.readBytes name 0 (S.size name)) := by
 have c1 := fisName_ok name w (by omega)
 rw [hp] at c1
 have hsz := size_ax h name (by omega)
 rw [hf] at hsz
 have hrd := read_ax h (by omega) name (by omega) 0 (S.size name)
 have hok : S.readOk name 0 (S.size name) = 0 := by
  simp only [Ds.readOk, Ds.size, hf, ne_eq, not_true_eq_false, if_false]
  rw [if_neg (by omega)]
 rw [hok] at hrd
 have hfa := fun v => fault_ok opGet name 0 v
 clear h hp hf hok
 generalize S.size name = z at *
 go_enter Tryz.func13, Tryz.ntmps13
 go_wp2_with (first
  | (go_at_call 53; refine c1.mono ?_; rintro e w' ⟨rfl, hww⟩; obtain rfl := hww.symm; clear c1)
  | (go_at_call 54; refine hsz.mono ?_; rintro e w' ⟨rfl, hww⟩; obtain rfl := hww.symm; clear hsz)
  | (go_at_call 55; refine hrd.mono ?_; rintro e w2 ⟨v, rfl, hx, ho⟩; have HX := hide hx; have HO := hide ho; clear hrd hx ho)
  | (go_at_call 51; refine (hfa _).mono ?_; rintro e w3 ⟨v3, rfl, hv3, hk3⟩; obtain rfl : v3 = .nilIface := (by rcases hv3 with hv | hv; exact hv.2; exact absurd rfl hv.1); have HK3 := hide hk3; clear hfa hv3 hk3))
 go_ret2
 exact ⟨_, rfl, HX.out.kept HK3.out, HO.out.kept HK3.out⟩
end
end

end Go.Proofs.YtodihkdmneihiaaGreatDoor
