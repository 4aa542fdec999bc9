import Derived.Test.YtmklodligplbaaaGreatProg
import Derived.Test.YtmklodligplbaaaGreatMemm
import Derived.Laws.AppendOwnNone
import Derived.Deep.RegionWith
import Derived.Laws.BitsAllLaws
open Go.RowKit
set_option linter.unusedVariables false
set_option linter.unusedSimpArgs false
set_option maxRecDepth 100000
set_option maxHeartbeats 51200000
namespace Go.Proofs.YtmklodligplbaaaGreat
section
theorem Tryz.infoByte : (Tryz.prog.info? 5).map (fun i => (i.zero, i.size, i.bytes)) = some (some (.int .u8 0), 1, 1) := by kernel_rfl
theorem clone_nil (w : World) :
  Calls Tryz.prog 113 #[.slice none 0 0] w fun e w' => e = .returned (.slice none 0 0) ∧ w' = w := by
 have hnil := fun (w : World) (a : Option Addr) (n c : Nat) => Lib.run_eql_slice_nil (P := Tryz.prog) w 22 5 a n c 0 0 Tryz.underlying22
 go_enter Tryz.func113, Tryz.ntmps113
 go_wp2
 go_ret
 exact ⟨rfl, rfl⟩
theorem clone_some (ad : Addr) (cap : Nat) (xs : List UInt8) (w : World) (hm : xs.length <= 140737488355328) (hc : ∀ j u, (bys xs)[j]? = some u -> (w.alloc (.cells #[] 5)).cell? (ad.add j) = some u) :
  Calls Tryz.prog 113 #[.slice (some ad) xs.length cap] w fun e w' => ∃ g cap', e = .returned (.slice (some ⟨g, 0, none⟩) xs.length cap') ∧ w.heap.size <= g ∧ g < w'.heap.size ∧ xs.length <= cap' ∧ Sl w' (some ⟨g, 0, none⟩) xs ∧ Kept [] w w' ∧ w'.ownsRow w.heap.size 5 1 (.slice (some ⟨g, 0, none⟩) xs.length cap') xs.length (bys xs) := by
 obtain ⟨i0, hi, hz0, hz1, hz2⟩ := info_parts Tryz.infoByte
 have hnil := fun (w : World) (a : Option Addr) (n c : Nat) => Lib.run_eql_slice_nil (P := Tryz.prog) w 22 5 a n c 0 0 Tryz.underlying22
 go_enter Tryz.func113, Tryz.ntmps113
 go_wp2_with (at_builtin; refine wpList_append_own _ rfl _ _ 22 rfl w.heap.size 5 i0 (.int .u8 0) 1 1 Tryz.underlying22 hi hz0 hz1 hz2 rfl (by decide) _ 0 [] rfl (World.ownsRow_made w #[] 0 (Nat.le_refl _) (by decide) rfl) ad xs.length cap (bys xs) rfl (by simp [bys_length]) hc (bys_oneCell xs) ?c3 ?c4 ?c5 ?_)
 case c3 => unfold maxLen; omega
 case c4 => omega
 case c5 => simp
 intro v' w1 hown hgrow hnn
 obtain ⟨g, cap', hv, hg, hgs, hcap, hsl⟩ := own_sl hown hnn
 have hk : Kept [] w w1 := ((Kept.refl [] w).alloc _).grown hgrow (by intro k hk hlt; simp [Value.ownBlock] at hk; omega)
 have HOW : Hid (w1.ownsRow w.heap.size 5 1 (.slice (some ⟨g, 0, none⟩) xs.length cap') xs.length (bys xs)) := by
  have h := hown
  rw [hv] at h
  exact h
 rw [hv]
 clear hown hgrow hnn hv hnil hc
 go_wp2
 go_ret
 exact ⟨g, cap', rfl, hg, hgs, hcap, hsl, hk, HOW.out⟩
def Fresh (w w' : World) (ao : Option Addr) (cap : Nat) (ys : List UInt8) : Prop :=
 Sl w' ao ys ∧ ys.length <= cap ∧ (ao = none -> ys = [] ∧ cap = 0) ∧ ∀ a, ao = some a -> w.heap.size <= a.block ∧ a.block < w'.heap.size ∧ a.spot = none
theorem Fresh.later {l : List Nat} {w w1 w2 : World} {ao : Option Addr} {cap : Nat} {ys : List UInt8} (h : Fresh w1 w2 ao cap ys) (hk : Kept l w w1) : Fresh w w2 ao cap ys :=
 ⟨h.1, h.2.1, h.2.2.1, fun a ha => ⟨Nat.le_trans hk.size (h.2.2.2 a ha).1, (h.2.2.2 a ha).2.1, (h.2.2.2 a ha).2.2⟩⟩
theorem clone_any (ao : Option Addr) (n cap : Nat) (xs : List UInt8) (w : World) (hxn : xs.length = n) (hm : xs.length <= 140737488355328) (h : Sl w ao xs) (hn : ao = none -> xs = [] ∧ cap = 0) :
  Calls Tryz.prog 113 #[.slice ao n cap] w fun e w' => ∃ ao' cap', e = .returned (.slice ao' n cap') ∧ Fresh w w' ao' cap' xs ∧ Kept [] w w' := by
 subst hxn
 cases ao with
 | none =>
  obtain ⟨rfl, rfl⟩ := hn rfl
  refine (clone_nil w).mono fun e w' ⟨he, hw⟩ => ?_
  subst he; subst hw
  exact ⟨none, 0, rfl, ⟨Sl.nil _ _, Nat.le_refl _, fun _ => ⟨rfl, rfl⟩, by simp⟩, Kept.refl _ _⟩
 | some a =>
  refine (clone_some a cap xs w hm ?_).mono fun e w' ⟨g, cap', he, hg, hgs, hcap, hsl, hk, _⟩ => ?_
  ·by_cases h0 : xs = []
   ·subst h0
    intro j u hu
    simp [bys] at hu
   ·obtain ⟨b, off, e', hb, hc⟩ := h.open h0
    cases e'
    refine Sl.cells fun i hi => ?_
    rw [World.cell?_alloc_lt _ _ _ hb]
    exact hc i hi
  ·exact ⟨_, cap', he, ⟨hsl, hcap, by simp, by simp [hg, hgs]⟩, hk⟩
end

section
theorem rnumber_some {w : World} {b : Nat} {p : Int} {g off cap : Nat} {xs : List UInt8} {at_ : Nat} (h : Rd w b 0 p (some ⟨g, off, none⟩) cap xs at_) :
  Calls Tryz.prog 105 #[.pointer (some ⟨b, 0, none⟩)] w fun e' w' => e' = .returned (.int .i64 (Pure.num (xs.drop at_)).1) ∧ Kept [b] w w' ∧ Rd w' b (Pure.num (xs.drop at_)).2.2 (if (Pure.num (xs.drop at_)).2.2 = 0 then p else at_) (some ⟨g, off, none⟩) cap xs (at_ + (Pure.num (xs.drop at_)).2.1) := by
 have h0 := h.c0
 have h1 := h.c1
 have h2 := h.c2
 have h3 := h.c3
 have hs := h.small
 have hl := h.le
 have hlc := h.lc
 have f0 := h.f0
 have f1 := h.f1
 have f3 := h.f3
 have H := (show Hid _ from h)
 clear h
 have hsl := (H.out.sl.drop at_ cap hl hlc)
 have hf := Pure.num_facts (xs.drop at_)
 simp only [List.length_drop] at hf
 by_cases he : (Pure.num (xs.drop at_)).2.2 = 0
 ·have hne : (((Pure.num (xs.drop at_)).2.2 : Int) != 0) = false := by simp [he]
  go_enter Tryz.func105, Tryz.ntmps105
  go_wp2
  go_quiet ((go_at_call 120; exact Calls.quiet_of_same (shortest_n _ _ _ (xs.drop at_) _ (by simp) (by simp; omega) (hsl.drewN _))))
  generalize (if cap = at_ then _ else _) = ao2
  go_wp2
  go_ret
  refine ⟨rfl, kept_moved _ _ _ _, ?_⟩
  have := (H.out.drewN nq).moved (at_ + (Pure.num (xs.drop at_)).2.1) (by omega)
  simpa using this
 ·have hne : (((Pure.num (xs.drop at_)).2.2 : Int) != 0) = true := by simp [he]
  go_enter Tryz.func105, Tryz.ntmps105
  go_wp2
  go_quiet ((go_at_call 120; exact Calls.quiet_of_same (shortest_n _ _ _ (xs.drop at_) _ (by simp) (by simp; omega) (hsl.drewN _))))
  generalize (if cap = at_ then _ else _) = ao2
  go_wp2
  go_region_with (go_at_call 90; refine (refuse_ok _ p _ _ _ (by simpa using h0) (by simpa using h1) (by simpa using f0) (by simpa using f1)).mono ?_; rintro e w' ⟨rfl, rfl⟩)
  go_wp2
  go_ret
  have z : (Pure.num (xs.drop at_)).1 = 0 ∧ (Pure.num (xs.drop at_)).2.1 = 0 := by omega
  refine ⟨ret_int (by omega), kept_refused _ _ _ _ _, ?_⟩
  have := (H.out.drewN (nq + 1)).refused (Pure.num (xs.drop at_)).2.2 at_
  rw [z.2, Nat.add_zero]
  exact this
theorem rnumber_none {w : World} {b : Nat} {p : Int} (h : Rd w b 0 p none 0 [] 0) :
  Calls Tryz.prog 105 #[.pointer (some ⟨b, 0, none⟩)] w fun e' w' => e' = .returned (.int .i64 0) ∧ Kept [b] w w' ∧ Rd w' b 10 0 none 0 [] 0 := by
 have h0 := h.c0
 have h1 := h.c1
 have h2 := h.c2
 have h3 := h.c3
 have f0 := h.f0
 have f1 := h.f1
 have f3 := h.f3
 have H := (show Hid _ from h)
 clear h
 simp only [List.length_nil] at h2
 go_enter Tryz.func105, Tryz.ntmps105
 go_wp2
 go_quiet ((go_at_call 120; exact Calls.quiet_of_same (shortest_n _ _ _ [] _ rfl (by simp) (Sl.nil _ _))))
 go_wp2
 go_region_with (go_at_call 90; refine (refuse_ok _ p _ _ _ (by simpa using h0) (by simpa using h1) (by simpa using f0) (by simpa using f1)).mono ?_; rintro e w' ⟨rfl, rfl⟩)
 go_wp2
 go_ret
 refine ⟨rfl, kept_refused _ _ _ _ _, ?_⟩
 exact (H.out.drewN (nq + 1)).refused 10 0
theorem rnumber_ok {w : World} {b : Nat} {p : Int} {ao : Option Addr} {cap : Nat} {xs : List UInt8} {at_ : Nat} (h : Rd w b 0 p ao cap xs at_) :
  Calls Tryz.prog 105 #[.pointer (some ⟨b, 0, none⟩)] w fun e' w' => e' = .returned (.int .i64 (Pure.num (xs.drop at_)).1) ∧ Kept [b] w w' ∧ Rd w' b (Pure.num (xs.drop at_)).2.2 (if (Pure.num (xs.drop at_)).2.2 = 0 then p else at_) ao cap xs (at_ + (Pure.num (xs.drop at_)).2.1) := by
 cases ao with
 | none =>
  obtain ⟨rfl, rfl⟩ := h.nil rfl
  obtain rfl : at_ = 0 := by have := h.le; simpa using this
  exact rnumber_none h
 | some a =>
  obtain ⟨g, off, spot⟩ := a
  obtain rfl : spot = none := h.spot _ rfl
  exact rnumber_some h
theorem rnumber_bad {w : World} {b : Nat} {e : Int} (h0 : w.cell? ⟨b, 0, none⟩ = some (.int .i64 e)) (he : (e != 0) = true) :
  Calls Tryz.prog 105 #[.pointer (some ⟨b, 0, none⟩)] w fun e' w' => e' = .returned (.int .i64 0) ∧ w' = w := by
 go_enter Tryz.func105, Tryz.ntmps105
 go_wp2
 go_ret
 exact ⟨rfl, rfl⟩
end

section
theorem ret_slice {a : Option Addr} {n m c : Nat} (h : n = m) : Ending.returned (.slice a n c) = .returned (.slice a m c) := by rw [h]
theorem kept_refused0 (w : World) (b : Nat) (u v : Value) : Kept [b] w ((w.setCell ⟨b, 0, none⟩ u).setCell ⟨b, 1, none⟩ v) := ((Kept.refl [b] w).setCell (by simp) _).setCell (by simp) _
theorem take_short {w : World} {b : Nat} {p : Int} {ao : Option Addr} {cap : Nat} {xs : List UInt8} {at_ : Nat} (h : Rd w b 0 p ao cap xs at_) (n began : Int) (hn : (xs.length - at_ : Nat) < n) :
  Calls Tryz.prog 91 #[.pointer (some ⟨b, 0, none⟩), .int .i64 n, .int .i64 began] w fun e' w' => e' = .returned (.slice none 0 0) ∧ Kept [b] w w' ∧ Rd w' b 10 began ao cap xs at_ := by
 have h0 := h.c0
 have h1 := h.c1
 have f0 := h.f0
 have f1 := h.f1
 have H := (show Hid _ from h)
 clear h
 go_enter Tryz.func91, Tryz.ntmps91
 go_wp2_with (first | (go_at_call 92; refine (left_ok H.out).mono ?_; rintro e w' ⟨rfl, nq, rfl⟩) | (go_at_call 90; refine (refuse_ok _ p _ _ _ (by simpa using h0) (by simpa using h1) (by simpa using f0) (by simpa using f1)).mono ?_; rintro e w' ⟨rfl, rfl⟩))
 go_ret
 exact ⟨rfl, kept_refused _ _ _ _ _, (H.out.drewN _).refused 10 began⟩
theorem take_some {w : World} {b : Nat} {p : Int} {g off cap : Nat} {xs : List UInt8} {at_ : Nat} (h : Rd w b 0 p (some ⟨g, off, none⟩) cap xs at_) (n : Nat) (began : Int) (hn : n <= xs.length - at_) :
  Calls Tryz.prog 91 #[.pointer (some ⟨b, 0, none⟩), .int .i64 n, .int .i64 began] w fun e' w' => ∃ ao' cap', e' = .returned (.slice ao' n cap') ∧ Sl w' ao' ((xs.drop at_).take n) ∧ (ao' = none -> n = 0 ∧ cap' = 0) ∧ (∀ a, ao' = some a -> a.spot = none) ∧ Kept [b] w w' ∧ Rd w' b 0 p (some ⟨g, off, none⟩) cap xs (at_ + n) := by
 have h0 := h.c0
 have h2 := h.c2
 have h3 := h.c3
 have hs := h.small
 have hl := h.le
 have hlc := h.lc
 have f3 := h.f3
 have hsl := (h.sl.drop at_ cap hl hlc).take n
 have hsp : ∃ a, (if cap = at_ then some (⟨g, off, none⟩ : Addr) else some ⟨g, off + at_, none⟩) = some a ∧ a.spot = none ∧ a.block = g := by
  by_cases hc : cap = at_
  ·rw [if_pos hc]; exact ⟨_, rfl, rfl, rfl⟩
  ·rw [if_neg hc]; exact ⟨_, rfl, rfl, rfl⟩
 have hap := h.apart _ rfl
 have H := (show Hid _ from h)
 clear h
 go_enter Tryz.func91, Tryz.ntmps91
 go_wp2_with (go_at_call 92; refine (left_ok H.out).mono ?_; rintro e w' ⟨rfl, nq0, rfl⟩)
 go_quiet (fail)
 generalize (if cap = at_ then some (⟨g, off, none⟩ : Addr) else some ⟨g, off + at_, none⟩) = ao2 at hsl hsp ⊢
 obtain ⟨a2, rfl, hsp1, hsp2⟩ := hsp
 go_wp2
 go_ret
 refine ⟨some a2, cap - at_, ret_slice (by omega), ?_, by simp, by rintro a ⟨⟩; exact hsp1, kept_moved _ _ _ _, ?_⟩
 ·exact hsl.kept (kept_moved _ _ _ _) (by rintro _ a ⟨⟩; simp [hsp2]; exact hap)
 ·have := (H.out.drewN (nq0 + nq)).moved (at_ + n) (by omega)
  simpa using this
theorem take_none {w : World} {b : Nat} {p : Int} (h : Rd w b 0 p none 0 [] 0) (began : Int) :
  Calls Tryz.prog 91 #[.pointer (some ⟨b, 0, none⟩), .int .i64 0, .int .i64 began] w fun e' w' => e' = .returned (.slice none 0 0) ∧ Kept [b] w w' ∧ Rd w' b 0 p none 0 [] 0 := by
 have h0 := h.c0
 have h2 := h.c2
 have h3 := h.c3
 have f3 := h.f3
 have H := (show Hid _ from h)
 clear h
 simp only [List.length_nil] at h2
 go_enter Tryz.func91, Tryz.ntmps91
 go_wp2_with (go_at_call 92; refine (left_ok H.out).mono ?_; rintro e w' ⟨rfl, nq0, rfl⟩)
 go_quiet (fail)
 go_wp2
 go_ret
 refine ⟨rfl, kept_moved _ _ _ _, ?_⟩
 exact (H.out.drewN (nq0 + nq)).moved 0 (by simp)
theorem take_ok {w : World} {b : Nat} {p : Int} {ao : Option Addr} {cap : Nat} {xs : List UInt8} {at_ : Nat} (h : Rd w b 0 p ao cap xs at_) (n : Nat) (began : Int) (hn : n <= xs.length - at_) :
  Calls Tryz.prog 91 #[.pointer (some ⟨b, 0, none⟩), .int .i64 n, .int .i64 began] w fun e' w' => ∃ ao' cap', e' = .returned (.slice ao' n cap') ∧ Sl w' ao' ((xs.drop at_).take n) ∧ (ao' = none -> n = 0 ∧ cap' = 0) ∧ (∀ a, ao' = some a -> a.spot = none) ∧ Kept [b] w w' ∧ Rd w' b 0 p ao cap xs (at_ + n) := by
 cases ao with
 | none =>
  obtain ⟨rfl, rfl⟩ := h.nil rfl
  obtain rfl : at_ = 0 := by have := h.le; simpa using this
  obtain rfl : n = 0 := by simpa using hn
  refine (take_none h began).mono fun e w' ⟨he, hk, hr⟩ => ?_
  exact ⟨none, 0, he, Sl.nil _ _, fun _ => ⟨rfl, rfl⟩, by simp, hk, hr⟩
 | some a =>
  obtain ⟨g, off, spot⟩ := a
  obtain rfl : spot = none := h.spot _ rfl
  exact take_some h n began hn
end

section
theorem raw_neg {w : World} {b : Nat} {p : Int} {ao : Option Addr} {cap : Nat} {xs : List UInt8} {at_ : Nat} (h : Rd w b 0 p ao cap xs at_) (n : Int) (hn : n < 0) :
  Calls Tryz.prog 88 #[.pointer (some ⟨b, 0, none⟩), .int .i64 n] w fun e' w' => e' = .returned (.slice none 0 0) ∧ Kept [b] w w' ∧ Rd w' b 1 at_ ao cap xs at_ := by
 have h0 := h.c0
 have h1 := h.c1
 have h3 := h.c3
 have hs := h.small
 have hl := h.le
 have hlc := h.lc
 have f0 := h.f0
 have f1 := h.f1
 have H := (show Hid _ from h)
 clear h
 go_enter Tryz.func88, Tryz.ntmps88
 go_wp2
 go_region_with (go_at_call 90; refine (refuse_ok _ p _ _ _ (by simpa using h0) (by simpa using h1) (by simpa using f0) (by simpa using f1)).mono ?_; rintro e w' ⟨rfl, rfl⟩)
 go_wp2
 go_ret
 exact ⟨rfl, kept_refused _ _ 1 _ _, (H.out.drewN 1).refused 1 at_⟩
theorem raw_short {w : World} {b : Nat} {p : Int} {ao : Option Addr} {cap : Nat} {xs : List UInt8} {at_ : Nat} (h : Rd w b 0 p ao cap xs at_) (n : Int) (hn0 : 0 <= n) (hn : (xs.length - at_ : Nat) < n) :
  Calls Tryz.prog 88 #[.pointer (some ⟨b, 0, none⟩), .int .i64 n] w fun e' w' => e' = .returned (.slice none 0 0) ∧ Kept [b] w w' ∧ Rd w' b 10 at_ ao cap xs at_ := by
 have h0 := h.c0
 have h1 := h.c1
 have h3 := h.c3
 have hs := h.small
 have hl := h.le
 have hlc := h.lc
 have f0 := h.f0
 have f1 := h.f1
 have H := (show Hid _ from h)
 clear h
 go_enter Tryz.func88, Tryz.ntmps88
 go_wp2_with (first | (go_at_call 89; refine (rclosed_ok _ _ h0).mono ?_; rintro e w' ⟨rfl, hw⟩; obtain rfl := hw.symm) | (go_at_call 91; refine (take_short H.out _ _ hn).mono ?_; rintro e w' ⟨rfl, hk, hr⟩) | (go_at_call 113; refine (clone_nil _).mono ?_; rintro e w' ⟨rfl, rfl⟩))
 go_ret
 exact ⟨rfl, by assumption, by assumption⟩
theorem raw_ok {w : World} {b : Nat} {p : Int} {ao : Option Addr} {cap : Nat} {xs : List UInt8} {at_ : Nat} (h : Rd w b 0 p ao cap xs at_) (n : Nat) (hn : n <= xs.length - at_) :
  Calls Tryz.prog 88 #[.pointer (some ⟨b, 0, none⟩), .int .i64 n] w fun e' w' => ∃ ao' cap', e' = .returned (.slice ao' n cap') ∧ Fresh w w' ao' cap' ((xs.drop at_).take n) ∧ Kept [b] w w' ∧ Rd w' b 0 p ao cap xs (at_ + n) := by
 have h0 := h.c0
 have h1 := h.c1
 have h3 := h.c3
 have hs := h.small
 have hl := h.le
 have hlc := h.lc
 have f0 := h.f0
 have f1 := h.f1
 have H := (show Hid _ from h)
 clear h
 go_enter Tryz.func88, Tryz.ntmps88
 go_wp2_with (first | (go_at_call 89; refine (rclosed_ok _ _ h0).mono ?_; rintro e w' ⟨rfl, hw⟩; obtain rfl := hw.symm) | (go_at_call 91; refine (take_ok H.out _ _ hn).mono ?_; rintro e w1 ⟨ao1, cap1, rfl, hsl1, hnn1, hsp1, hk1, hr1⟩))
 refine (clone_any ao1 n cap1 ((xs.drop at_).take n) w1 (by simp; omega) (by simp; omega) hsl1 (fun h => by obtain ⟨rfl, rfl⟩ := hnn1 h; simp)).mono ?_
 rintro e w2 ⟨ao2, cap2, rfl, hfr2, hk2⟩
 go_wp2
 go_ret
 exact ⟨ao2, cap2, rfl, hfr2.later hk1, hk1.tr hk2, hr1.kept hk2 (by simp) (by simp)⟩
end

section
theorem rnumber_as {w : World} {b : Nat} {p : Int} {ao : Option Addr} {cap : Nat} {xs : List UInt8} {at_ : Nat} (h : Rd w b 0 p ao cap xs at_) {v k : Nat} (hr : Pure.num (xs.drop at_) = (v, k, 0)) :
  Calls Tryz.prog 105 #[.pointer (some ⟨b, 0, none⟩)] w fun e' w' => e' = .returned (.int .i64 v) ∧ Kept [b] w w' ∧ Rd w' b 0 p ao cap xs (at_ + k) := by
 refine (rnumber_ok h).mono fun e w' ⟨he, hk, hR⟩ => ?_
 rw [hr] at he hR
 exact ⟨he, hk, hR⟩
theorem rnumber_no {w : World} {b : Nat} {p : Int} {ao : Option Addr} {cap : Nat} {xs : List UInt8} {at_ : Nat} (h : Rd w b 0 p ao cap xs at_) {v k c : Nat} (hr : Pure.num (xs.drop at_) = (v, k, c)) (hc : c ≠ 0) :
  Calls Tryz.prog 105 #[.pointer (some ⟨b, 0, none⟩)] w fun e' w' => e' = .returned (.int .i64 0) ∧ Kept [b] w w' ∧ Rd w' b c at_ ao cap xs at_ := by
 have hf := Pure.num_facts (xs.drop at_)
 rw [hr] at hf
 obtain ⟨rfl, rfl⟩ : v = 0 ∧ k = 0 := by simp only at hf; omega
 refine (rnumber_ok h).mono fun e w' ⟨he, hk, hR⟩ => ?_
 rw [hr] at he hR
 rw [if_neg hc] at hR
 exact ⟨he, hk, hR⟩
theorem text_neg {w : World} {b : Nat} {p : Int} {ao : Option Addr} {cap : Nat} {xs : List UInt8} {at_ : Nat} (h : Rd w b 0 p ao cap xs at_) (most : Int) (hn : most < 0) :
  Calls Tryz.prog 121 #[.pointer (some ⟨b, 0, none⟩), .int .i64 most] w fun e' w' => e' = .returned (.slice none 0 0) ∧ Kept [b] w w' ∧ Rd w' b 1 at_ ao cap xs at_ := by
 have h0 := h.c0
 have h1 := h.c1
 have h3 := h.c3
 have hs := h.small
 have hl := h.le
 have hlc := h.lc
 have f0 := h.f0
 have f1 := h.f1
 have H := (show Hid _ from h)
 clear h
 go_enter Tryz.func121, Tryz.ntmps121
 go_wp2_with (first | (go_at_call 89; refine (rclosed_ok _ _ h0).mono ?_; rintro e w' ⟨rfl, hw⟩; obtain rfl := hw.symm) | (go_at_call 90; refine (refuse_ok _ p _ _ _ h0 h1 f0 f1).mono ?_; rintro e w' ⟨rfl, rfl⟩))
 go_ret
 exact ⟨rfl, kept_refused0 _ _ _ _, H.out.refused 1 at_⟩
theorem text_form {w : World} {b : Nat} {p : Int} {ao : Option Addr} {cap : Nat} {xs : List UInt8} {at_ : Nat} (h : Rd w b 0 p ao cap xs at_) (most : Int) (hn : 0 <= most) {v k c : Nat} (hr : Pure.num (xs.drop at_) = (v, k, c)) (hc : c ≠ 0) :
  Calls Tryz.prog 121 #[.pointer (some ⟨b, 0, none⟩), .int .i64 most] w fun e' w' => e' = .returned (.slice none 0 0) ∧ Kept [b] w w' ∧ Rd w' b c at_ ao cap xs at_ := by
 have HR : Hid (Pure.num (xs.drop at_) = (v, k, c)) := hr
 have h0 := h.c0
 have h1 := h.c1
 have h3 := h.c3
 have hs := h.small
 have hl := h.le
 have hlc := h.lc
 have f0 := h.f0
 have f1 := h.f1
 have H := (show Hid _ from h)
 clear h
 clear hr
 have hc1 : ((c : Int) != 0) = true := by simp [hc]
 go_enter Tryz.func121, Tryz.ntmps121
 go_wp2_with (first | (go_at_call 89; refine (rclosed_ok _ _ h0).mono ?_; rintro e w' ⟨rfl, hw⟩; obtain rfl := hw.symm) | (go_at_call 105; refine (rnumber_no H.out HR.out hc).mono ?_; rintro e w1 ⟨rfl, hk1, hr1⟩; have c10 := hr1.c0; have c11 := hr1.c1; have g10 := hr1.f0; have g11 := hr1.f1; have H1 := (show Hid _ from hr1); clear hr1) | (go_at_call 114; refine (spoilt_any _ _ _ c10).mono ?_; rintro e w' ⟨rfl, hw⟩; obtain rfl := hw.symm))
 go_ret
 exact ⟨rfl, hk1, H1.out⟩
theorem text_long {w : World} {b : Nat} {p : Int} {ao : Option Addr} {cap : Nat} {xs : List UInt8} {at_ : Nat} (h : Rd w b 0 p ao cap xs at_) (most : Int) (hn : 0 <= most) {v k : Nat} (hr : Pure.num (xs.drop at_) = (v, k, 0)) (hv : most < v) :
  Calls Tryz.prog 121 #[.pointer (some ⟨b, 0, none⟩), .int .i64 most] w fun e' w' => e' = .returned (.slice none 0 0) ∧ Kept [b] w w' ∧ Rd w' b 2 at_ ao cap xs (at_ + k) := by
 have HR : Hid (Pure.num (xs.drop at_) = (v, k, 0)) := hr
 have h0 := h.c0
 have h1 := h.c1
 have h3 := h.c3
 have hs := h.small
 have hl := h.le
 have hlc := h.lc
 have f0 := h.f0
 have f1 := h.f1
 have H := (show Hid _ from h)
 clear h
 clear hr
 go_enter Tryz.func121, Tryz.ntmps121
 go_wp2_with (first | (go_at_call 89; refine (rclosed_ok _ _ h0).mono ?_; rintro e w' ⟨rfl, hw⟩; obtain rfl := hw.symm) | (go_at_call 105; refine (rnumber_as H.out HR.out).mono ?_; rintro e w1 ⟨rfl, hk1, hr1⟩; have c10 := hr1.c0; have c11 := hr1.c1; have g10 := hr1.f0; have g11 := hr1.f1; have H1 := (show Hid _ from hr1); clear hr1) | (go_at_call 114; refine (spoilt_any _ _ _ c10).mono ?_; rintro e w' ⟨rfl, hw⟩; obtain rfl := hw.symm) | (go_at_call 90; refine (refuse_ok _ p _ _ _ c10 c11 g10 g11).mono ?_; rintro e w2 ⟨rfl, rfl⟩))
 go_ret
 exact ⟨rfl, hk1.tr (kept_refused0 _ _ _ _), H1.out.refused 2 at_⟩
theorem text_short {w : World} {b : Nat} {p : Int} {ao : Option Addr} {cap : Nat} {xs : List UInt8} {at_ : Nat} (h : Rd w b 0 p ao cap xs at_) (most : Int) (hn : 0 <= most) {v k : Nat} (hr : Pure.num (xs.drop at_) = (v, k, 0)) (hv : v <= most) (hsh : xs.length - (at_ + k) < v) :
  Calls Tryz.prog 121 #[.pointer (some ⟨b, 0, none⟩), .int .i64 most] w fun e' w' => e' = .returned (.slice none 0 0) ∧ Kept [b] w w' ∧ Rd w' b 10 at_ ao cap xs (at_ + k) := by
 have HR : Hid (Pure.num (xs.drop at_) = (v, k, 0)) := hr
 have h0 := h.c0
 have h1 := h.c1
 have h3 := h.c3
 have hs := h.small
 have hl := h.le
 have hlc := h.lc
 have f0 := h.f0
 have f1 := h.f1
 have H := (show Hid _ from h)
 clear h
 clear hr
 go_enter Tryz.func121, Tryz.ntmps121
 go_wp2_with (first | (go_at_call 89; refine (rclosed_ok _ _ h0).mono ?_; rintro e w' ⟨rfl, hw⟩; obtain rfl := hw.symm) | (go_at_call 105; refine (rnumber_as H.out HR.out).mono ?_; rintro e w1 ⟨rfl, hk1, hr1⟩; have c10 := hr1.c0; have c11 := hr1.c1; have g10 := hr1.f0; have g11 := hr1.f1; have H1 := (show Hid _ from hr1); clear hr1) | (go_at_call 114; refine (spoilt_any _ _ _ c10).mono ?_; rintro e w' ⟨rfl, hw⟩; obtain rfl := hw.symm) | (go_at_call 91; refine (take_short H1.out _ _ (by omega)).mono ?_; rintro e w2 ⟨rfl, hk2, hr2⟩) | (go_at_call 113; refine (clone_nil _).mono ?_; rintro e w' ⟨rfl, hw⟩; obtain rfl := hw.symm))
 go_ret
 exact ⟨rfl, hk1.tr hk2, hr2⟩
theorem text_ok {w : World} {b : Nat} {p : Int} {ao : Option Addr} {cap : Nat} {xs : List UInt8} {at_ : Nat} (h : Rd w b 0 p ao cap xs at_) (most : Int) (hn : 0 <= most) {v k : Nat} (hr : Pure.num (xs.drop at_) = (v, k, 0)) (hv : v <= most) (hsh : v <= xs.length - (at_ + k)) :
  Calls Tryz.prog 121 #[.pointer (some ⟨b, 0, none⟩), .int .i64 most] w fun e' w' => ∃ ao' cap', e' = .returned (.slice ao' v cap') ∧ Fresh w w' ao' cap' ((xs.drop (at_ + k)).take v) ∧ Kept [b] w w' ∧ Rd w' b 0 p ao cap xs (at_ + k + v) := by
 have HR : Hid (Pure.num (xs.drop at_) = (v, k, 0)) := hr
 have h0 := h.c0
 have h1 := h.c1
 have h3 := h.c3
 have hs := h.small
 have hl := h.le
 have hlc := h.lc
 have f0 := h.f0
 have f1 := h.f1
 have H := (show Hid _ from h)
 clear h
 clear hr
 go_enter Tryz.func121, Tryz.ntmps121
 go_wp2_with (first | (go_at_call 89; refine (rclosed_ok _ _ h0).mono ?_; rintro e w' ⟨rfl, hw⟩; obtain rfl := hw.symm) | (go_at_call 105; refine (rnumber_as H.out HR.out).mono ?_; rintro e w1 ⟨rfl, hk1, hr1⟩; have c10 := hr1.c0; have c11 := hr1.c1; have g10 := hr1.f0; have g11 := hr1.f1; have H1 := (show Hid _ from hr1); clear hr1) | (go_at_call 114; refine (spoilt_any _ _ _ c10).mono ?_; rintro e w' ⟨rfl, hw⟩; obtain rfl := hw.symm) | (go_at_call 91; refine (take_ok H1.out _ _ hsh).mono ?_; rintro e w2 ⟨ao1, cap1, rfl, hsl1, hnn1, hsp1, hk2, hr2⟩))
 refine (clone_any ao1 v cap1 ((xs.drop (at_ + k)).take v) w2 (by simp; omega) (by simp; omega) hsl1 (fun h => by obtain ⟨rfl, rfl⟩ := hnn1 h; simp)).mono ?_
 rintro e w3 ⟨ao2, cap2, rfl, hfr2, hk3⟩
 go_wp2
 go_ret
 exact ⟨ao2, cap2, rfl, hfr2.later (hk1.tr hk2), (hk1.tr hk2).tr hk3, hr2.kept hk3 (by simp) (by simp)⟩
end

section
namespace Pure
def tbl : List Nat := [0, 498536548, 997073096, 651767980, 1994146192, 1802195444, 1303535960, 1342533948, 3988292384, 4027552580, 3604390888, 3412177804, 2607071920, 2262029012, 2685067896, 3183342108]
def tb (i : Nat) : Nat := tbl.getD i 0
theorem tb_lt (i : Nat) : tb i < 4294967296 := by
 unfold tb
 by_cases h : i < 16
 ·have : ∀ i, i < 16 -> tbl.getD i 0 < 4294967296 := by decide
  exact this i h
 ·have : tbl.length <= i := by simp [tbl]; omega
  simp [List.getElem?_eq_none this]
theorem xor_lt32 {a b : Nat} (ha : a < 4294967296) (hb : b < 4294967296) : a ^^^ b < 4294967296 := Nat.xor_lt_two_pow (n := 32) ha hb
def nib (y : Nat) : Nat := (y / 16) ^^^ tb (y % 16)
theorem nib_lt {y : Nat} (h : y < 4294967296) : nib y < 4294967296 := xor_lt32 (by omega) (tb_lt _)
def crcStep (x c : Nat) : Nat := nib (nib (x ^^^ c))
theorem crcStep_lt {x c : Nat} (h : x < 4294967296) (hc : c < 4294967296) : crcStep x c < 4294967296 := nib_lt (nib_lt (xor_lt32 h hc))
def crc (x : Nat) (l : List UInt8) : Nat := l.foldl (fun x c => crcStep x c.toNat) x
theorem crc_snoc (x : Nat) (l : List UInt8) (c : UInt8) : crc x (l ++ [c]) = crcStep (crc x l) c.toNat := by simp [crc]
theorem crc_lt {x : Nat} (h : x < 4294967296) (l : List UInt8) : crc x l < 4294967296 := by
 induction l generalizing x with
 | nil => exact h
 | cons c l ih => exact ih (crcStep_lt h (Nat.lt_trans (UInt8.toNat_lt c) (by omega)))
theorem ones_xor {x : Nat} (h : x < 4294967296) : 4294967295 ^^^ x = 4294967295 - x := by
 have h1 : (BitVec.allOnes 32 ^^^ BitVec.ofNat 32 x).toNat = (~~~ (BitVec.ofNat 32 x)).toNat := by rw [BitVec.allOnes_xor]
 rw [BitVec.toNat_xor, BitVec.toNat_not, BitVec.toNat_allOnes, BitVec.toNat_ofNat, Nat.mod_eq_of_lt (by omega)] at h1
 simpa using h1
def sum (l : List UInt8) : Nat := 4294967295 - crc 4294967295 l
theorem take_snoc {α : Type} (l : List α) (d : α) (k : Nat) (h : k < l.length) : l.take (k + 1) = l.take k ++ [l.getD k d] := by
 rw [List.take_succ_eq_append_getElem h]; simp [List.getElem?_eq_getElem h]
end Pure
end

section
theorem rfixed_low {w : World} {b : Nat} {p : Int} {ao : Option Addr} {cap : Nat} {xs : List UInt8} {at_ : Nat} (h : Rd w b 0 p ao cap xs at_) (n : Int) (hn : n < 1) :
  Calls Tryz.prog 54 #[.pointer (some ⟨b, 0, none⟩), .int .i64 n] w fun e' w' => e' = .returned (.int .i64 0) ∧ Kept [b] w w' ∧ Rd w' b 1 at_ ao cap xs at_ := by
 have h0 := h.c0
 have h1 := h.c1
 have h3 := h.c3
 have hs := h.small
 have hl := h.le
 have hlc := h.lc
 have f0 := h.f0
 have f1 := h.f1
 have H := (show Hid _ from h)
 clear h
 go_enter Tryz.func54, Tryz.ntmps54
 go_wp2
 go_region_with (go_at_call 90; refine (refuse_ok _ p _ _ _ (by simpa using h0) (by simpa using h1) (by simpa using f0) (by simpa using f1)).mono ?_; rintro e w' ⟨rfl, rfl⟩)
 go_wp2
 go_ret
 exact ⟨rfl, kept_refused _ _ 1 _ _, (H.out.drewN 1).refused 1 at_⟩
theorem rfixed_high {w : World} {b : Nat} {p : Int} {ao : Option Addr} {cap : Nat} {xs : List UInt8} {at_ : Nat} (h : Rd w b 0 p ao cap xs at_) (n : Int) (hn : 4 < n) :
  Calls Tryz.prog 54 #[.pointer (some ⟨b, 0, none⟩), .int .i64 n] w fun e' w' => e' = .returned (.int .i64 0) ∧ Kept [b] w w' ∧ Rd w' b 1 at_ ao cap xs at_ := by
 have h0 := h.c0
 have h1 := h.c1
 have h3 := h.c3
 have hs := h.small
 have hl := h.le
 have hlc := h.lc
 have f0 := h.f0
 have f1 := h.f1
 have H := (show Hid _ from h)
 clear h
 go_enter Tryz.func54, Tryz.ntmps54
 go_wp2
 go_region_with (go_at_call 90; refine (refuse_ok _ p _ _ _ (by simpa using h0) (by simpa using h1) (by simpa using f0) (by simpa using f1)).mono ?_; rintro e w' ⟨rfl, rfl⟩)
 go_wp2
 go_ret
 exact ⟨rfl, kept_refused _ _ 1 _ _, (H.out.drewN 1).refused 1 at_⟩
theorem rfixed_short {w : World} {b : Nat} {p : Int} {ao : Option Addr} {cap : Nat} {xs : List UInt8} {at_ : Nat} (h : Rd w b 0 p ao cap xs at_) (n : Int) (hn0 : 1 <= n) (hn4 : n <= 4) (hn : (xs.length - at_ : Nat) < n) :
  Calls Tryz.prog 54 #[.pointer (some ⟨b, 0, none⟩), .int .i64 n] w fun e' w' => e' = .returned (.int .i64 0) ∧ Kept [b] w w' ∧ Rd w' b 10 at_ ao cap xs at_ := by
 have h0 := h.c0
 have h1 := h.c1
 have h3 := h.c3
 have hs := h.small
 have hl := h.le
 have hlc := h.lc
 have f0 := h.f0
 have f1 := h.f1
 have H := (show Hid _ from h)
 clear h
 go_enter Tryz.func54, Tryz.ntmps54
 go_wp2_with (first | (go_at_call 89; refine (rclosed_ok _ _ h0).mono ?_; rintro e w' ⟨rfl, hw⟩; obtain rfl := hw.symm) | (go_at_call 91; refine (take_short H.out _ _ hn).mono ?_; rintro e w1 ⟨rfl, hk, hr⟩))
 go_loop [5, 32] (fun v i => i = .int .i64 0 ∧ v = .int .i64 0) (fun _ i => 0)
 case atStart => exact ⟨rfl, rfl⟩
 case round =>
  obtain ⟨rfl, rfl⟩ := hrel
  go_wp2
  go_ret
  exact ⟨rfl, hk, hr⟩
theorem rfixed_ok {w : World} {b : Nat} {p : Int} {ao : Option Addr} {cap : Nat} {xs : List UInt8} {at_ : Nat} (h : Rd w b 0 p ao cap xs at_) (n : Nat) (hn0 : 1 <= n) (hn4 : n <= 4) (hn : n <= xs.length - at_) :
  Calls Tryz.prog 54 #[.pointer (some ⟨b, 0, none⟩), .int .i64 n] w fun e' w' => e' = .returned (.int .i64 (Pure.be ((xs.drop at_).take n))) ∧ Kept [b] w w' ∧ Rd w' b 0 p ao cap xs (at_ + n) := by
 have h0 := h.c0
 have h1 := h.c1
 have h3 := h.c3
 have hs := h.small
 have hl := h.le
 have hlc := h.lc
 have f0 := h.f0
 have f1 := h.f1
 have H := (show Hid _ from h)
 clear h
 go_enter Tryz.func54, Tryz.ntmps54
 go_wp2_with (first | (go_at_call 89; refine (rclosed_ok _ _ h0).mono ?_; rintro e w' ⟨rfl, hw⟩; obtain rfl := hw.symm) | (go_at_call 91; refine (take_ok H.out _ _ hn).mono ?_; rintro e w1 ⟨ao1, cap1, rfl, hsl1, hnn1, hsp1, hk1, hr1⟩))
 have hlen : ((xs.drop at_).take n).length = n := by simp; omega
 obtain ⟨ys, hys⟩ := nm ((xs.drop at_).take n)
 have HY : Hid ((xs.drop at_).take n = ys) := hys
 rw [hys] at hsl1 hlen
 clear hys
 obtain ⟨g, off, hao, hb, hc⟩ := hsl1.open (by rintro rfl; simp at hlen; omega)
 rw [hao]
 clear hsl1 hnn1 hsp1 hao h0 h1 h3 f0 f1
 go_loop [5, 32] (fun v i => ∃ k : Nat, k <= n ∧ i = .int .i64 k ∧ v = .int .i64 (Pure.be (ys.take k))) (fun _ i => n - (intOf i).toNat)
 case atStart => exact ⟨0, Nat.zero_le _, rfl, rfl⟩
 case round =>
  obtain ⟨k, hk, rfl, rfl⟩ := hrel
  by_cases hlt : k < n
  ·have hcell := hc k (by omega)
   have hcb : (ys.getD k 0).toNat < 256 := UInt8.toNat_lt _
   have hbe := Pure.be_lt (ys.take k)
   have hlk : (ys.take k).length <= 3 := by simp; omega
   have hbe3 : Pure.be (ys.take k) < 16777216 := Nat.lt_of_lt_of_le hbe (Nat.pow_le_pow_right (n := 256) (by omega) hlk)
   have HS : Hid (Pure.be (ys.take (k + 1)) = 256 * Pure.be (ys.take k) + (ys.getD k 0).toNat) := by
    show _ = _
    rw [Pure.take_snoc ys 0 k (by omega), Pure.be_snoc]
   clear hbe hlk
   generalize Pure.be (ys.take k) = v at hbe3 HS ⊢
   generalize (ys.getD k 0).toNat = c at hcell hcb HS
   have e1 := Pure.i64_or_join v c (by omega) hcb
   clear hc
   go_wp2
   go_round
   case rel => exact ⟨k + 1, by omega, by go_num, by rw [HS.out]; go_num⟩
   case measure => simp [intOf]; omega
  ·have HT : Hid (ys.take k = ys) := List.take_of_length_le (by omega)
   clear hc
   go_wp2
   go_ret
   exact ⟨ret_int (by rw [HY.out, HT.out]), hk1, hr1⟩
end

section
theorem rfixed_bad {w : World} {b : Nat} {e : Int} (h0 : w.cell? ⟨b, 0, none⟩ = some (.int .i64 e)) (he : (e != 0) = true) (n : Int) :
  Calls Tryz.prog 54 #[.pointer (some ⟨b, 0, none⟩), .int .i64 n] w fun e' w' => e' = .returned (.int .i64 0) ∧ w' = w := by
 go_enter Tryz.func54, Tryz.ntmps54
 go_wp2
 go_ret
 exact ⟨rfl, rfl⟩
theorem raw_bad {w : World} {b : Nat} {e : Int} (h0 : w.cell? ⟨b, 0, none⟩ = some (.int .i64 e)) (he : (e != 0) = true) (n : Int) :
  Calls Tryz.prog 88 #[.pointer (some ⟨b, 0, none⟩), .int .i64 n] w fun e' w' => e' = .returned (.slice none 0 0) ∧ w' = w := by
 go_enter Tryz.func88, Tryz.ntmps88
 go_wp2
 go_ret
 exact ⟨rfl, rfl⟩
theorem text_bad {w : World} {b : Nat} {e : Int} (h0 : w.cell? ⟨b, 0, none⟩ = some (.int .i64 e)) (he : (e != 0) = true) (n : Int) :
  Calls Tryz.prog 121 #[.pointer (some ⟨b, 0, none⟩), .int .i64 n] w fun e' w' => e' = .returned (.slice none 0 0) ∧ w' = w := by
 go_enter Tryz.func121, Tryz.ntmps121
 go_wp2
 go_ret
 exact ⟨rfl, rfl⟩
end

end Go.Proofs.YtmklodligplbaaaGreat
