import Derived.Test.YtmklodligplbaabGreatD8wl
namespace Go.Proofs.YtmklodligplbaabGreat
section
open Go.RowKit
open Dlt
set_option linter.unusedVariables false
set_option linter.unusedSimpArgs false
attribute [local go_sem] Oper.semAt_some
structure NxI (wd : Int) (Z : Nat) (L : List Wk) (ys : List UInt8) (wL : World) (pre : List Nat) (W : World) : Prop where
 k : Kept [] wL W
 no : ∀ j, j < pre.length → fitI wd Z L ys j = none
structure NxS (wd : Int) (Z : Nat) (L : List Wk) (ys : List UInt8) (A B : Nat) (wL W : World) : Prop where
 k : Kept [A, B] wL W
 la : A < wL.heap.size
 lb : B < wL.heap.size
 a : W.cell? ⟨A, 0, none⟩ = some (.int .i64 (nextI wd Z L ys).1)
 b : W.cell? ⟨B, 0, none⟩ = some (.int .i64 (nextI wd Z L ys).2)
theorem NxI.later {wd : Int} {Z : Nat} {L : List Wk} {ys : List UInt8} {wL : World} {pre : List Nat} {A C : World} (h : NxI wd Z L ys wL pre A) (k : Below wL.heap.size A C) : NxI wd Z L ys wL pre C :=
 ⟨Kept.of_below (h.k.below0.trans k), h.no⟩
theorem Kept.later2 {l : List Nat} {w A C : World} (h : Kept l w A) (k : Below w.heap.size A C) : Kept l w C := ⟨k.os.trans h.os, k.tape.trans h.tape, k.output.trans h.output, Nat.le_trans h.size k.size, fun i hi hn => (k.block i hi).trans (h.block i hi hn)⟩
theorem NxS.later {wd : Int} {Z : Nat} {L : List Wk} {ys : List UInt8} {A B : Nat} {wL W C : World} (h : NxS wd Z L ys A B wL W) (k : Below wL.heap.size W C) : NxS wd Z L ys A B wL C :=
 ⟨h.k.later2 k, h.la, h.lb, (World.cell?_of_block (k.block _ h.la)).trans h.a, (World.cell?_of_block (k.block _ h.lb)).trans h.b⟩
theorem wat_length8 (xs : List UInt8) (n lo : Nat) (h : lo + n ≤ xs.length) : (wat xs n lo).length = n := by simp [wat]; omega
theorem Sl.wat8 {w : World} {g off : Nat} {xs : List UInt8} (h : Sl w (some ⟨g, off, none⟩) xs) (n lo : Nat) (hl : lo + n ≤ xs.length) : Sl w (some ⟨g, off + lo, none⟩) (wat xs n lo) := by
 refine Sl.of fun i hi => ?_
 have hi' : i < n := by rw [wat_length8 _ _ _ hl] at hi; exact hi
 obtain ⟨b', off', e', hcell⟩ := h (lo + i) (by omega)
 cases e'
 rw [show off + lo + i = off + (lo + i) by omega, hcell]
 have : (wat xs n lo).getD i 0 = xs.getD (lo + i) 0 := by simp [wat, hi']
 rw [this]
theorem Oth.set2 {W V : World} (h : Kept [] W V) (p q : Addr) (x y : Value) : Oth W ((V.setCell p x).setCell q y) := by
 intro i o ho hc
 have h1 := h.oth i o ho hc
 exact (KeepsOthers.setCell _ _ _).same i _ ((KeepsOthers.setCell _ _ _).same i _ h1 hc) hc
theorem set2_cells {W : World} {A B : Nat} {x y u v : Value} (hne : A ≠ B) (ha : W.cell? ⟨A, 0, none⟩ = some u) (hb : W.cell? ⟨B, 0, none⟩ = some v) : ((W.setCell ⟨A, 0, none⟩ x).setCell ⟨B, 0, none⟩ y).cell? ⟨A, 0, none⟩ = some x ∧ ((W.setCell ⟨A, 0, none⟩ x).setCell ⟨B, 0, none⟩ y).cell? ⟨B, 0, none⟩ = some y := by
 have k1 : Kept [A] W (W.setCell ⟨A, 0, none⟩ x) := (Kept.refl [A] W).setCell (by simp) _
 have k2 : Kept [B] (W.setCell ⟨A, 0, none⟩ x) ((W.setCell ⟨A, 0, none⟩ x).setCell ⟨B, 0, none⟩ y) := (Kept.refl [B] _).setCell (by simp) _
 have c1 : (W.setCell ⟨A, 0, none⟩ x).cell? ⟨A, 0, none⟩ = some x := World.cell?_setCell_same' _ _ _ (by rw [ha]; rfl)
 have c2 := Kept.cellOf k1 hb (by simpa using Ne.symm hne)
 exact ⟨Kept.cellOf k2 c1 (by simpa using hne), World.cell?_setCell_same' _ _ _ (by rw [c2]; rfl)⟩
theorem results_ints {fn : Func} {p q : Tmp} (h : fn.results = #[.cell p 3, .cell q 3]) (tmps : Array Value) (w : World) (A B : Addr) (x y : Value) (ha : tmps.getD p undef = .pointer (some A)) (hb : tmps.getD q undef = .pointer (some B)) (ca : w.cell? A = some x) (cb : w.cell? B = some y) :
  (results fn tmps).run Tryz.prog w = .ok (.tuple #[x, y]) w := by
 have e : ∀ (A : Addr) (x : Value), w.cell? A = some x → (loadVar 3 A).run Tryz.prog w = .ok x w := fun A x hx => by
  have hu := Tryz.underlying3
  go_simp
 have ea := e A x ca
 have eb := e B y cb
 simp only [results, h]
 simp only [Array.getD_eq_getD_getElem?] at ha hb
 simp [Sem.run_bind, Result.andThen, asAddr, ha, hb, ea, eb]
set_option maxHeartbeats 6400000 in
set_option maxRecDepth 100000 in
theorem next_ok (wd : Int) (Z : Nat) (ao : Option Addr) (n cap M : Nat) (L : List Wk) (ro : Option Addr) (rn rc : Nat) (ys : List UInt8) (w : World) (base : Nat) (K : List Int) (V : List Value) (hL : L.length = n) (hn : n ≤ 1000000) (hcap : n ≤ cap) (hW : Wks w ao L) (hm : Fm w base M L n K V) (hyl : ys.length = rn) (hyc : rn ≤ rc) (hys : Sl w ro ys) (hym : rn ≤ 1000000) (hZ1 : 1 ≤ Z) (hZ2 : Z ≤ 4096) :
  Calls Tryz.prog 68 #[.agg (fdC wd Z ao n cap (some M)).toArray, .slice ro rn rc] w fun e w' => e = .returned (.tuple #[.int .i64 (nextI wd Z L ys).1, .int .i64 (nextI wd Z L ys).2]) ∧ Kept [] w w' := by
 have hF := FdAt.new w wd Z ao n cap M
 have c1 := hF.c (j := 1) (u := .int .i64 Z) rfl
 have HIN := hide (And.intro hL (And.intro hn (And.intro hcap (And.intro hW (And.intro hm (And.intro hyl (And.intro hyc hys)))))))
 have HF := hide hF
 obtain ⟨G, hG⟩ : ∃ G, w.heap.size = G := ⟨_, rfl⟩
 rw [hG] at c1 HF
 have HWS := hide (fun W (h : Kept [] w W) => windows_seq ro rn rc Z ys W hyl (by omega) (hys.kept h (by simp)) hZ1)
 clear hL hn hcap hW hm hyl hyc hys hF
 refine (callsIn_wide (n := 5)).1 ?_
 refine callsIn_of_wp_marks Tryz.func68 rfl trivial ?_ rfl
 simp only [Tryz.ntmps68, List.size_toArray, List.length_cons, List.length_nil, Nat.reduceAdd, Nat.reduceSub, Array.replicate_succ, Array.replicate_zero, List.push_toArray, List.append_toArray, List.nil_append, List.cons_append]
 have HK4 := hide (((((Kept.refl [] w).alloc (.cells (fdC wd Z ao n cap (some M)).toArray 109)).alloc (.cells #[.slice ro rn rc] 27)).alloc (.cells #[.int .i64 0] 3)).alloc (.cells #[.int .i64 0] 3))
 gi_wp2_with (refine ⟨trivial, ?_⟩; gi_at_call 100; refine (callsIn_wide.2 (HWS.out _ HK4.out)).mono ?_; rintro e wL ⟨gf, lb, rfl, heg, hsq, hk5⟩; have HSQ := hide (And.intro heg (And.intro hsq hk5)); clear heg hsq hk5)
 have HCE : Hid (∀ W, Kept [] wL W → FdAt W G wd Z ao n cap M ∧ W.cell? ⟨G + 1, 0, none⟩ = some (.slice ro rn rc) ∧ W.cell? ⟨G + 1 + 1, 0, none⟩ = some (.int .i64 0) ∧ W.frozen? ⟨G + 1 + 1, 0, none⟩ = false ∧ W.cell? ⟨G + 1 + 1 + 1, 0, none⟩ = some (.int .i64 0) ∧ W.frozen? ⟨G + 1 + 1 + 1, 0, none⟩ = false ∧ Kept [] w W) := by
  intro W hW
  have k5 := HSQ.out.2.2.trans hW (by simp)
  have kk := HK4.out.trans k5 (by simp)
  have s1 : (w.alloc (.cells (fdC wd Z ao n cap (some M)).toArray 109)).heap.size = G + 1 := by rw [World.size_alloc, hG]
  have s2 : ((w.alloc (.cells (fdC wd Z ao n cap (some M)).toArray 109)).alloc (.cells #[.slice ro rn rc] 27)).heap.size = G + 1 + 1 := by rw [World.size_alloc, s1]
  have s3 : (((w.alloc (.cells (fdC wd Z ao n cap (some M)).toArray 109)).alloc (.cells #[.slice ro rn rc] 27)).alloc (.cells #[.int .i64 0] 3)).heap.size = G + 1 + 1 + 1 := by rw [World.size_alloc, s2]
  have r1 := heap_new (w.alloc (.cells (fdC wd Z ao n cap (some M)).toArray 109)) (.cells #[.slice ro rn rc] 27)
  have r2 := heap_new ((w.alloc (.cells (fdC wd Z ao n cap (some M)).toArray 109)).alloc (.cells #[.slice ro rn rc] 27)) (.cells #[.int .i64 0] 3)
  have r3 := heap_new (((w.alloc (.cells (fdC wd Z ao n cap (some M)).toArray 109)).alloc (.cells #[.slice ro rn rc] 27)).alloc (.cells #[.int .i64 0] 3)) (.cells #[.int .i64 0] 3)
  rw [s1] at r1
  rw [s2] at r2
  rw [s3] at r3
  have x3 := (k5.block _ (by rw [World.size_alloc, s3]; omega) (by simp)).trans r3
  have k4 := ((Kept.refl [] (((w.alloc (.cells (fdC wd Z ao n cap (some M)).toArray 109)).alloc (.cells #[.slice ro rn rc] 27)).alloc (.cells #[.int .i64 0] 3))).alloc (.cells #[.int .i64 0] 3)).trans k5 (by simp)
  have x2 := (k4.block _ (by rw [s3]; omega) (by simp)).trans r2
  have k3 := ((Kept.refl [] ((w.alloc (.cells (fdC wd Z ao n cap (some M)).toArray 109)).alloc (.cells #[.slice ro rn rc] 27))).alloc (.cells #[.int .i64 0] 3)).trans k4 (by simp)
  have x1 := (k3.block _ (by rw [s2]; omega) (by simp)).trans r1
  have k2 := ((Kept.refl [] (w.alloc (.cells (fdC wd Z ao n cap (some M)).toArray 109))).alloc (.cells #[.slice ro rn rc] 27)).trans k3 (by simp)
  exact ⟨HF.out.kept k2 (by simp), by rw [cell_of_row _ _ _ _ _ _ x1]; rfl, by rw [cell_of_row _ _ _ _ _ _ x2]; rfl, frozen_of_row _ _ _ _ _ x2, by rw [cell_of_row _ _ _ _ _ _ x3]; rfl, frozen_of_row _ _ _ _ _ x3, kk⟩
 have HAB : Hid (G + 1 + 1 < wL.heap.size ∧ G + 1 + 1 + 1 < wL.heap.size) := by
  have := HSQ.out.2.2.size
  simp [World.size_alloc] at this
  rw [hG] at this
  exact ⟨by omega, by omega⟩
 have HOUT : Hid (∀ W, NxS wd Z L ys (G + 1 + 1) (G + 1 + 1 + 1) wL W → Kept [] w W) := fun W h => ((HK4.out.trans HSQ.out.2.2 (by simp)).trans h.k (by simp [hG]; omega))
 clear HK4 HF HWS c1 hG
 refine range8 (gf := gf) (lb := lb) rfl HSQ.out.1 (HSQ.out.2.1 _) (fun _ => rfl) (NxI wd Z L ys wL) (fun _ W => NxS wd Z L ys (G + 1 + 1) (G + 1 + 1 + 1) wL W) (fun s A C h k => h.later k) (fun s A C h k => h.later k) ⟨Kept.refl _ _, fun j hj => absurd hj (by simp)⟩
  (fun x => { tmps := #[.agg (fdC wd Z ao n cap (some M)).toArray, .slice ro rn rc, .pointer (some ⟨G, 0, none⟩), .pointer (some ⟨G + 1, 0, none⟩), .pointer (some ⟨G + 1 + 1, 0, none⟩), .pointer (some ⟨G + 1 + 1 + 1, 0, none⟩), .int .i64 x, .int .i64 (Rol.sum (wat ys Z x)), undef, undef, .slice ro rn rc, .pointer (some ⟨G, 1, none⟩), .int .i64 Z, .func (.func gf) #[] lb, .int .i64 x, .int .i64 (Rol.sum (wat ys Z x)), undef, undef, undef, undef, undef, undef, undef, undef, undef, undef, undef, undef, undef, undef, undef, undef, undef, undef], defers := [] }) ?assign ?body ?done ?stop
 case assign =>
  intro l x W K hK
  simp only [winE]
  gi_wp2
  exact hK
 case body =>
  intro l pre k W hI hN
  obtain ⟨hkp, hkl⟩ := hN
  have HKP := hide hkp
  clear hkp
  have hI' := hide hI
  obtain ⟨hF, cr, ca, fa, cb, fb, hkw⟩ := HCE.out W hI.k
  obtain ⟨hL, hn, hcap, hW, hm, hyl, hyc, hys⟩ := HIN.out
  obtain ⟨b, off, rfl, _⟩ := hys 0 (by omega)
  have hcut := fun V => cut2 V b off rn rc k (k + Z) Z (by omega) (by omega) hyc rfl (by omega)
  have HLS := hide (fun U (h : Kept [] W U) => least_ok wd Z ao n cap M L (Rol.sum (wat ys Z k)) (some ⟨b, off + k, none⟩) Z (rc - k) (wat ys Z k) U base K V (by omega) (by omega) (hW.kept (hkw.trans h (by simp)) (by simp)) (hm.kept (hkw.trans h (by simp))) (wat_length8 _ _ _ hkl) (by omega) ((hys.kept (hkw.trans h (by simp)) (by simp)).wat8 Z k hkl) (by omega) hcap)
  have hcF := hF.range
  have c1 := hF.c (j := 1) (u := .int .i64 Z) rfl
  have hilF := Tryz.infoFd
  have hadd : IntKind.i64.wrap ((k : Int) + (Z : Int)) = ((k + Z : Nat) : Int) := by simp [IntKind.wrap, IntKind.bits, IntKind.signed]; omega
  have HFT : Hid (fitI wd Z L ys k = leastI L (Rol.sum (wat ys Z k)) (Sha.ident wd (wat ys Z k))) := rfl
  have HKL := hide hkl
  have HYL := hide hyl
  generalize leastI L (Rol.sum (wat ys Z k)) (Sha.ident wd (wat ys Z k)) = o at HLS HFT
  obtain ⟨m, hmm⟩ : ∃ m, m = k + Z := ⟨_, rfl⟩
  rw [← hmm] at hadd hcut
  clear hI hW hm hys hkw hkl hyl hmm
  gi_wp2
  refine regionIn_held8 (S := fun w' => Kept [] W w') (by kernel_rfl) (fun _ _ h => h) (by kernel_rfl) ((Kept.refl [] W).drew) (fun h0 => ?_)
  generalize World.drew W = v0 at h0 ⊢
  refine wpAnyH_take (i := 0) (v := .agg (fdC wd Z ao n cap (some M)).toArray) rfl (by kernel_rfl) (by kernel_rfl) (by kernel_rfl) (fun _ _ _ h => h) (yieldsIf_load_mid (by rfl) _ _ rfl G 0 rfl (fdC wd Z ao n cap (some M)) _ (fun W h j u hu => Kept.cellOf h (hcF j u hu) (by simp)) Tryz.underlying109 rfl hilF) h0 ?_
  try simp only [z1, z2, z3, z4, z5, z6, z7, z8]
  refine wpAnyH_take (i := 1) (v := .slice (some ⟨b, off, none⟩) rn rc) rfl (by kernel_rfl) (by kernel_rfl) (by kernel_rfl) (fun _ _ _ h => h) (Or.inl ⟨by rfl, fun w hSw => by have c0 := Kept.cellOf hSw cr (by simp); go_simp⟩) h0 ?_
  try simp only [z1, z2, z3, z4, z5, z6, z7, z8]
  refine wpAnyH_take (i := 2) (v := .int .i64 k) rfl (by kernel_rfl) (by kernel_rfl) (by kernel_rfl) (fun _ _ _ h => h) (Or.inl ⟨by rfl, fun w hSw => by go_simp⟩) h0 ?_
  try simp only [z1, z2, z3, z4, z5, z6, z7, z8]
  refine wpAnyH_take (i := 3) (v := .int .i64 k) rfl (by kernel_rfl) (by kernel_rfl) (by kernel_rfl) (fun _ _ _ h => h) (Or.inl ⟨by rfl, fun w hSw => by go_simp⟩) h0 ?_
  try simp only [z1, z2, z3, z4, z5, z6, z7, z8]
  refine wpAnyH_take (i := 4) (v := .pointer (some ⟨G, 1, none⟩)) rfl (by kernel_rfl) (by kernel_rfl) (by kernel_rfl) (fun _ _ _ h => h) (Or.inl ⟨by rfl, fun w hSw => by go_simp⟩) h0 ?_
  try simp only [z1, z2, z3, z4, z5, z6, z7, z8]
  refine wpAnyH_take (i := 5) (v := .int .i64 Z) rfl (by kernel_rfl) (by kernel_rfl) (by kernel_rfl) (fun _ _ _ h => h) (Or.inl ⟨by rfl, fun w hSw => by have c0 := Kept.cellOf hSw c1 (by simp); go_simp⟩) h0 ?_
  try simp only [z1, z2, z3, z4, z5, z6, z7, z8]
  refine wpAnyH_take (i := 6) (v := .int .i64 m) rfl (by kernel_rfl) (by kernel_rfl) (by kernel_rfl) (fun _ _ _ h => h) (Or.inl ⟨by rfl, fun w hSw => by have c0 := hadd; go_simp⟩) h0 ?_
  try simp only [z1, z2, z3, z4, z5, z6, z7, z8]
  refine wpAnyH_take (i := 7) (v := .slice (some ⟨b, off + k, none⟩) Z (rc - k)) rfl (by kernel_rfl) (by kernel_rfl) (by kernel_rfl) (fun _ _ _ h => h) (Or.inl ⟨by rfl, fun w hSw => by have c0 := hcut w; go_simp⟩) h0 ?_
  try simp only [z1, z2, z3, z4, z5, z6, z7, z8]
  refine wpAnyH_take (i := 8) (v := .int .i64 (Rol.sum (wat ys Z k))) rfl (by kernel_rfl) (by kernel_rfl) (by kernel_rfl) (fun _ _ _ h => h) (Or.inl ⟨by rfl, fun w hSw => by go_simp⟩) h0 ?_
  try simp only [z1, z2, z3, z4, z5, z6, z7, z8]
  refine wpAnyH_ready (rs := [9]) (by kernel_rfl) (by simp) (AllReadyH.cons (i := 9) rfl (fun K hK => ?_) AllReadyH.nil)
  rw [if_pos (by rfl)]
  go_simp
  refine (HLS.out v0 h0).mono ?_
  rintro e v1 ⟨rfl, hq⟩
  refine hK.out _ _ (h0.trans hq (by simp)) (fun h1 => ?_)
  clear hK K
  try simp only [z1, z2, z3, z4, z5, z6, z7, z8]
  clear hq h0
  refine wpAnyH_take (i := 10) (v := .tuple #[.int .i64 (o.getD 0 : Nat), .bool o.isSome]) rfl (by kernel_rfl) (by kernel_rfl) (by kernel_rfl) (fun _ _ _ h => h) (Or.inl ⟨by rfl, fun w hSw => by have c0 := (show leastV o = .tuple #[.int .i64 (o.getD 0 : Nat), .bool o.isSome] from rfl); go_simp⟩) h1 ?_
  try simp only [z1, z2, z3, z4, z5, z6, z7, z8]
  refine wpAnyH_take (i := 11) (v := .int .i64 (o.getD 0 : Nat)) rfl (by kernel_rfl) (by kernel_rfl) (by kernel_rfl) (fun _ _ _ h => h) (Or.inl ⟨by rfl, fun w hSw => by go_simp⟩) h1 ?_
  try simp only [z1, z2, z3, z4, z5, z6, z7, z8]
  refine wpAnyH_take (i := 13) (v := .int .i64 (o.getD 0 : Nat)) rfl (by kernel_rfl) (by kernel_rfl) (by kernel_rfl) (fun _ _ _ h => h) (Or.inl ⟨by rfl, fun w hSw => by go_simp⟩) h1 ?_
  try simp only [z1, z2, z3, z4, z5, z6, z7, z8]
  refine wpAnyH_take (i := 12) (v := .bool o.isSome) rfl (by kernel_rfl) (by kernel_rfl) (by kernel_rfl) (fun _ _ _ h => h) (Or.inl ⟨by rfl, fun w hSw => by go_simp⟩) h1 ?_
  try simp only [z1, z2, z3, z4, z5, z6, z7, z8]
  refine wpAnyH_take (i := 14) (v := .bool o.isSome) rfl (by kernel_rfl) (by kernel_rfl) (by kernel_rfl) (fun _ _ _ h => h) (Or.inl ⟨by rfl, fun w hSw => by go_simp⟩) h1 ?_
  try simp only [z1, z2, z3, z4, z5, z6, z7, z8]
  refine wpAnyH_done (by kernel_rfl) ?_ _
  have HKF := hide h1
  obtain ⟨_, _, ca1, fa1, cb1, fb1, _⟩ := HCE.out v1 (hI'.out.k.trans h1 (by simp))
  clear h1 hcF c1 hadd hcut HLS hF cr ca fa cb fb
  cases o with
  | none =>
   simp only [Option.isSome_none, Option.getD_none]
   gi_wp2
   refine ⟨HKF.out, hI'.out.k.trans HKF.out (by simp), fun j hj => ?_⟩
   rw [List.length_append, List.length_singleton] at hj
   by_cases hjk : j < pre.length
   ·exact hI'.out.no j hjk
   ·obtain rfl : j = k := by have := HKP.out; omega
    exact HFT.out
  | some i =>
   have HNX : Hid (nextI wd Z L ys = (k, i)) := nextI_some (by have := HKL.out; omega) (fun j hj => hI'.out.no j (by have := HKP.out; omega)) HFT.out
   simp only [Option.isSome_some, Option.getD_some]
   gi_wp2
   refine ⟨Oth.set2 HKF.out _ _ _ _, ((hI'.out.k.trans HKF.out (by simp)).mono (by simp)).setCell (by simp) _ |>.setCell (by simp) _, HAB.out.1, HAB.out.2, ?_, ?_⟩
   ·rw [HNX.out]
    exact (set2_cells (by omega) ca1 cb1).1
   ·rw [HNX.out]
    exact (set2_cells (by omega) ca1 cb1).2
 case done =>
  intro xs W hS hI hK
  obtain ⟨_, cr, ca, fa, cb, fb, hkw⟩ := HCE.out W hI.k
  have HNX : Hid (nextI wd Z L ys = (rn, 0)) := by
   have h := nextI_none (fun k hk => hI.no k (by have : xs.length = _ := hS; omega)) 
   rw [HIN.out.2.2.2.2.2.1] at h
   exact h
  gi_wp2
  have hX : NxS wd Z L ys (G + 1 + 1) (G + 1 + 1 + 1) wL ((W.setCell ⟨G + 1 + 1, 0, none⟩ (.int .i64 (rn : Nat))).setCell ⟨G + 1 + 1 + 1, 0, none⟩ (.int .i64 0)) :=
   ⟨(hI.k.mono (by simp)).setCell (by simp) _ |>.setCell (by simp) _, HAB.out.1, HAB.out.2, by rw [HNX.out]; exact (set2_cells (by omega) ca cb).1, by rw [HNX.out]; exact (set2_cells (by omega) ca cb).2⟩
  have hK2 := Oth.set2 (Kept.refl [] W) ⟨G + 1 + 1, 0, none⟩ ⟨G + 1 + 1 + 1, 0, none⟩ (.int .i64 (rn : Nat)) (.int .i64 0) _ _ hK rfl
  clear ca cb fa fb cr HNX hI hkw hK
  generalize (W.setCell ⟨G + 1 + 1, 0, none⟩ (.int .i64 (rn : Nat))).setCell ⟨G + 1 + 1 + 1, 0, none⟩ (.int .i64 0) = W2 at *
  refine ⟨by simp, .inl ⟨_, _, rfl, run_takeDeferred hK2, ?_⟩⟩
  have hX2 := hX.later (below_put (.deferred none) (Nat.le_refl _))
  have ca := hX2.a
  have cb := hX2.b
  exact ⟨_, results_ints rfl _ _ _ _ _ _ rfl rfl ca cb, rfl, HOUT.out _ hX2⟩
 case stop =>
  intro pre W hI hK
  gi_wp2
  refine ⟨by simp, .inl ⟨_, _, rfl, run_takeDeferred hK, ?_⟩⟩
  have hX2 := hI.later (below_put (.deferred none) (Nat.le_refl _))
  have ca := hX2.a
  have cb := hX2.b
  exact ⟨_, results_ints rfl _ _ _ _ _ _ rfl rfl ca cb, rfl, HOUT.out _ hX2⟩
end

section
open Go.RowKit
open Dlt
set_option linter.unusedVariables false
set_option linter.unusedSimpArgs false
namespace Dlt
theorem nextI_cases (wd : Int) (Z : Nat) (L : List Wk) (ys : List UInt8) : (nextI wd Z L ys = (ys.length, 0) ∧ ∀ k, k < ys.length + 1 - Z → fitI wd Z L ys k = none) ∨ ∃ k i, nextI wd Z L ys = (k, i) ∧ k < ys.length + 1 - Z ∧ fitI wd Z L ys k = some i ∧ ∀ j, j < k → fitI wd Z L ys j = none := by
 cases h : (List.range (ys.length + 1 - Z)).find? (fun k => (fitI wd Z L ys k).isSome) with
 | none =>
  left
  rw [List.find?_eq_none] at h
  have hn : ∀ k, k < ys.length + 1 - Z → fitI wd Z L ys k = none := fun k hk => by
   have := h k (by simpa using hk)
   simpa using this
  exact ⟨nextI_none hn, hn⟩
 | some k =>
  right
  have hm := List.mem_of_find?_eq_some h
  have hp := List.find?_some h
  simp only [List.mem_range] at hm
  obtain ⟨i, hi⟩ := Option.isSome_iff_exists.1 hp
  refine ⟨k, i, ?_, hm, hi, ?_⟩
  ·unfold nextI
   rw [h]
   simp [hi]
  ·intro j hj
   have h2 := h
   rw [List.find?_range_eq_some] at h2
   have := h2.2.2 j hj
   simpa using this
theorem leastI_some {L : List Wk} {x : Int} {id : List UInt8} {i : Nat} (h : leastI L x id = some i) : i < L.length ∧ (L.getD i wk0).sum = x ∧ (L.getD i wk0).id = id := by
 have hm := List.mem_of_find?_eq_some h
 have hp := List.find?_some h
 simp only [Bool.and_eq_true, beq_iff_eq] at hp
 exact ⟨by simpa using hm, hp.1, hp.2⟩
theorem next_cnt {wd : Int} {Z : Nat} {L : List Wk} {ys : List UInt8} (hZ : 1 ≤ Z) (h : (nextI wd Z L ys).1 < ys.length) : (nextI wd Z L ys).2 < L.length ∧ 1 ≤ cntW wd Z (L.drop (nextI wd Z L ys).2) (ys.drop (nextI wd Z L ys).1) := by
 rcases nextI_cases wd Z L ys with ⟨e, _⟩ | ⟨k, i, e, hk, hi, _⟩
 ·rw [e] at h
  exact absurd h (Nat.lt_irrefl _)
 ·rw [e]
  obtain ⟨h1, h2, h3⟩ := leastI_some hi
  refine ⟨h1, ?_⟩
  have hd : L.drop i = L.getD i wk0 :: L.drop (i + 1) := by
   rw [List.drop_eq_getElem_cons h1]
   congr 1
   simp [List.getElem?_eq_getElem h1]
  show 1 ≤ cntW wd Z (L.drop i) (ys.drop k)
  rw [hd]
  unfold cntW
  rw [if_neg (by rw [List.length_drop]; omega), if_pos ?_]
  ·omega
  ·rw [wkEq_iff]
   exact Wk.ext' h2.symm h3.symm
def accL (acc : List Stp) (ys : List UInt8) (a : Nat) : List Stp := if 0 < a then acc ++ [.lit (ys.take a)] else acc
def insF (wd : Int) (Z : Nat) (L : List Wk) : Nat → List Stp → List UInt8 → List Stp
 | 0, acc, _ => acc
 | k + 1, acc, ys =>
  if ys = [] ∨ 2048 < acc.length then acc
  else if ys.drop (nextI wd Z L ys).1 = [] then accL acc ys (nextI wd Z L ys).1
  else insF wd Z L k (accL acc ys (nextI wd Z L ys).1 ++ [.copy (nextI wd Z L ys).2 (cntW wd Z (L.drop (nextI wd Z L ys).2) (ys.drop (nextI wd Z L ys).1))]) ((ys.drop (nextI wd Z L ys).1).drop (cntW wd Z (L.drop (nextI wd Z L ys).2) (ys.drop (nextI wd Z L ys).1) * Z))
theorem ins_short {wd : Int} {Z : Nat} {L : List Wk} {ys : List UInt8} (hZ : 1 ≤ Z) (h : ys.drop (nextI wd Z L ys).1 ≠ []) : ((ys.drop (nextI wd Z L ys).1).drop (cntW wd Z (L.drop (nextI wd Z L ys).2) (ys.drop (nextI wd Z L ys).1) * Z)).length < ys.length := by
 have hlt : (nextI wd Z L ys).1 < ys.length := by
  apply Classical.byContradiction; intro hh
  exact h (List.drop_of_length_le (by omega))
 have hc := (next_cnt hZ hlt).2
 have : 1 * 1 ≤ cntW wd Z (L.drop (nextI wd Z L ys).2) (ys.drop (nextI wd Z L ys).1) * Z := Nat.mul_le_mul hc hZ
 rw [List.length_drop, List.length_drop]
 omega
theorem insF_fuel {wd : Int} {Z : Nat} {L : List Wk} (hZ : 1 ≤ Z) : ∀ (k k' : Nat) (acc : List Stp) (ys : List UInt8), ys.length ≤ k → ys.length ≤ k' → insF wd Z L k acc ys = insF wd Z L k' acc ys
 | 0, k', acc, ys, h, _ => by
  have : ys = [] := List.length_eq_zero_iff.1 (by omega)
  subst this
  cases k' with
  | zero => rfl
  | succ k' => simp [insF]
 | k + 1, 0, acc, ys, _, h => by
  have : ys = [] := List.length_eq_zero_iff.1 (by omega)
  subst this
  simp [insF]
 | k + 1, k' + 1, acc, ys, h1, h2 => by
  unfold insF
  split
  ·rfl
  ·split
   ·rfl
   ·next h =>
    have := ins_short (L := L) (wd := wd) hZ h
    exact insF_fuel hZ k k' _ _ (by omega) (by omega)
def ins (wd : Int) (Z : Nat) (L : List Wk) (acc : List Stp) (ys : List UInt8) : List Stp := insF wd Z L ys.length acc ys
theorem ins_stop {wd : Int} {Z : Nat} {L : List Wk} {acc : List Stp} {ys : List UInt8} (h : ys = [] ∨ 2048 < acc.length) : ins wd Z L acc ys = acc := by
 unfold ins
 cases hk : ys.length with
 | zero => rfl
 | succ k => unfold insF; rw [if_pos h]
theorem ins_end {wd : Int} {Z : Nat} {L : List Wk} {acc : List Stp} {ys : List UInt8} (h : ys ≠ []) (h2 : acc.length ≤ 2048) (h3 : ys.drop (nextI wd Z L ys).1 = []) : ins wd Z L acc ys = accL acc ys (nextI wd Z L ys).1 := by
 unfold ins
 cases hk : ys.length with
 | zero => exact absurd (List.length_eq_zero_iff.1 hk) h
 | succ k => unfold insF; rw [if_neg (by simp [h]; omega), if_pos h3]
theorem ins_go {wd : Int} {Z : Nat} {L : List Wk} {acc : List Stp} {ys : List UInt8} (hZ : 1 ≤ Z) (h : ys ≠ []) (h2 : acc.length ≤ 2048) (h3 : ys.drop (nextI wd Z L ys).1 ≠ []) :
  ins wd Z L acc ys = ins wd Z L (accL acc ys (nextI wd Z L ys).1 ++ [.copy (nextI wd Z L ys).2 (cntW wd Z (L.drop (nextI wd Z L ys).2) (ys.drop (nextI wd Z L ys).1))]) ((ys.drop (nextI wd Z L ys).1).drop (cntW wd Z (L.drop (nextI wd Z L ys).2) (ys.drop (nextI wd Z L ys).1) * Z)) := by
 have hs := ins_short (L := L) (wd := wd) hZ h3
 conv => lhs; unfold ins
 cases hk : ys.length with
 | zero => exact absurd (List.length_eq_zero_iff.1 hk) h
 | succ k =>
  conv => lhs; unfold insF
  rw [if_neg (by simp [h]; omega), if_neg h3]
  exact insF_fuel hZ _ _ _ _ (by omega) (Nat.le_refl _)
end Dlt
def StpV (w : World) : Stp → Value → Prop
 | .copy f c, v => v = .iface 116 (.agg #[.int .i64 (f : Nat), .int .i64 (c : Nat)])
 | .lit bs, v => ∃ ao n cap, v = .iface 113 (.slice ao n cap) ∧ bs.length = n ∧ n ≤ cap ∧ Sl w ao bs
theorem StpV.kept {w w' : World} {s : Stp} {v : Value} (h : StpV w s v) (hk : Kept [] w w') : StpV w' s v := by
 cases s with
 | copy f c => exact h
 | lit bs =>
  obtain ⟨ao, n, cap, e, h1, h2, h3⟩ := h
  exact ⟨ao, n, cap, e, h1, h2, h3.kept hk (by simp)⟩
theorem StpV.one {w : World} {s : Stp} {v : Value} (h : StpV w s v) : v.oneCell' = true := by
 cases s with
 | copy f c => rw [show v = _ from h]; rfl
 | lit bs => obtain ⟨ao, n, cap, e, _⟩ := h; rw [e]; rfl
structure InsAt (w0 w : World) (v : Value) (L : List Stp) : Prop where
 out : ∃ vals, w.ownsRow w0.heap.size 129 1 v L.length vals ∧ vals.length = L.length ∧ ∀ (i : Nat) s u, L[i]? = some s → vals[i]? = some u → StpV w0 s u
theorem InsAt.nil (w0 w : World) : InsAt w0 w (.slice none 0 0) [] := ⟨[], World.ownsRow_nil _ _ _ _, rfl, by simp⟩
theorem InsAt.kept {w0 w w' : World} {v : Value} {L : List Stp} (h : InsAt w0 w v L) (hk : Kept [] w w') : InsAt w0 w' v L := by
 obtain ⟨vals, h1, h2⟩ := h.out
 exact ⟨vals, own_same h1 (fun g hg => hk.block g (own_blk h1 hg).2.1 (by simp)), h2⟩
theorem InsAt.shape {w0 w : World} {v : Value} {L : List Stp} (h : InsAt w0 w v L) : ∃ ao cap, v = .slice ao L.length cap ∧ L.length ≤ cap := by
 obtain ⟨vals, h1, _⟩ := h.out
 obtain ⟨ao, cap, e, h3⟩ := own_shape h1
 exact ⟨ao, cap, e, h3⟩
theorem Tryz.infoIns8 : (Tryz.prog.info? 129).map (fun i => (i.zero, i.size, i.bytes)) = some (some .nilIface, 1, 16) := by kernel_rfl
theorem InsAt.add {w0 w : World} {v : Value} {L : List Stp} (h : InsAt w0 w v L) (hL : L.length ≤ 4096) (h0 : Kept [] w0 w) (W : World) (hW : Kept [] w W) (N : Nat) (s : Stp) (u : Value) (hu : StpV w0 s u) (hN : W.cell? ⟨N, 0, none⟩ = some u) :
  ∃ v' W2, (Builtin.append_ #[67, 67] 67 #[v, .slice (some ⟨N, 0, none⟩) 1 1]).run Tryz.prog W = .ok v' W2 ∧ InsAt w0 W2 v' (L ++ [s]) ∧ Kept v.ownBlock.toList W W2 ∧ Kept [] w0 W2 := by
 obtain ⟨vals, h1, h2, h3⟩ := (h.kept hW).out
 obtain ⟨i0, hi, hz0, hz1, hz2⟩ := info_parts Tryz.infoIns8
 obtain ⟨v', W2, hrun, h4, h5, _, h7⟩ := run_append_own_at (P := Tryz.prog) W w0.heap.size 67 67 129 i0 .nilIface 1 16 Tryz.underlying67 hi hz0 hz1 hz2 rfl (by decide) v _ _ h1 ⟨N, 0, none⟩ 1 1 [u] rfl (by
  intro j x hx
  cases j with
  | zero => simp only [List.getElem?_cons_zero, Option.some.injEq] at hx; subst hx; rw [Addr.add_mid]; exact hN
  | succ j => simp at hx) (by simp [hu.one]) (by unfold maxLen; omega) (by omega) (Nat.le_trans h0.size hW.size)
 have hk2 : Kept v.ownBlock.toList W W2 := (Kept.refl _ W).grown h5 (fun g hg _ => by rw [hg]; simp)
 refine ⟨v', W2, hrun, ⟨vals ++ [u], by rw [List.length_append]; exact h4, by simp [h2], ?_⟩, hk2, (h0.trans hW (by simp)).trans hk2 (fun i hi hlt => ?_)⟩
 ·intro i s' u' hs' hu'
  by_cases hil : i < L.length
  ·rw [List.getElem?_append_left hil] at hs'
   rw [List.getElem?_append_left (by omega)] at hu'
   exact h3 i s' u' hs' hu'
  ·have hl := (List.getElem?_eq_some_iff.1 hs').1
   rw [List.length_append, List.length_singleton] at hl
   have e : i = L.length := by omega
   subst e
   rw [List.getElem?_append_right (Nat.le_refl _), Nat.sub_self] at hs'
   rw [List.getElem?_append_right (by omega), h2, Nat.sub_self] at hu'
   cases hs'
   cases hu'
   exact hu
 ·have hg : v.ownBlock = some i := by simpa using hi
  have := (own_blk h1 hg).1
  omega
end

end Go.Proofs.YtmklodligplbaabGreat
