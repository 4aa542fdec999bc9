/-
  Contract: freightlaw5.do. (Written by tools/ic.py.)
-/
import Derived.Test.YtllfkfncgalpaaaIb
namespace Go.Proofs.Ytllfkfncgalpaaa
open Go.RowKit Dsk
set_option linter.unusedVariables false
set_option linter.unusedSimpArgs false

set_option maxHeartbeats 1600000 in
set_option maxRecDepth 100000 in
theorem do_create {w0 w : World} {p : Nat} {S : Ds} {N : Nat} (h : At w0 w p S N) (name to : By) (at_ n : Int) (da : Option Addr) (dn dc : Nat) (ds : By) (po pf pt : Int) (pa : Option Addr) (pn pc : Nat) (ps : List Int) (hi : StpIn w ⟨1, name, to, at_, n, da, dn, dc, ds, po, pf, pt, pa, pn, pc, ps⟩) (hN : N + dn ≤ 268435456) (hpn : pn ≤ 1073741824) :
    Calls Try.prog 8 #[.pointer (some ⟨p, 0, none⟩), .agg #[.int .i64 1, encStr name, encStr to, .int .i64 at_, .int .i64 n, .slice da dn dc, .int .i64 po, .int .i64 pf, .int .i64 pt, .slice pa pn pc]] w fun e w' => e = .returned (.int .i64 (S.create name).1) ∧ At w0 w' p (S.create name).2 (N + dn + 3) := by
  have hnm : name.length ≤ 4611686018427387904 := hi.nm
  have htm : to.length ≤ 4611686018427387904 := hi.tm
  obtain ⟨w1, hw1⟩ : ∃ w1, w1 = w.alloc (.cells #[.int .i64 1, encStr name, encStr to, .int .i64 at_, .int .i64 n, .slice da dn dc, .int .i64 po, .int .i64 pf, .int .i64 pt, .slice pa pn pc] 37) := ⟨_, rfl⟩
  have hk1 : Kept [] w w1 := by rw [hw1]; exact (Kept.refl [] w).alloc _
  have h1 := h.kept hk1
  have hb1 : w1.heap[w.heap.size]? = some (.cells #[.int .i64 1, encStr name, encStr to, .int .i64 at_, .int .i64 n, .slice da dn dc, .int .i64 po, .int .i64 pf, .int .i64 pt, .slice pa pn pc] 37 (0, 0)) := by rw [hw1]; exact (MapKept.heap_alloc w _).1
  have i0 : w1.cell? ⟨w.heap.size, 0, none⟩ = some (.int .i64 1) := by rw [cell_of_row w1 _ 0 _ _ _ hb1]; rfl
  have i1 : w1.cell? ⟨w.heap.size, 1, none⟩ = some (encStr name) := by rw [cell_of_row w1 _ 1 _ _ _ hb1]; rfl
  have i2 : w1.cell? ⟨w.heap.size, 2, none⟩ = some (encStr to) := by rw [cell_of_row w1 _ 2 _ _ _ hb1]; rfl
  have i3 : w1.cell? ⟨w.heap.size, 3, none⟩ = some (.int .i64 at_) := by rw [cell_of_row w1 _ 3 _ _ _ hb1]; rfl
  have i4 : w1.cell? ⟨w.heap.size, 4, none⟩ = some (.int .i64 n) := by rw [cell_of_row w1 _ 4 _ _ _ hb1]; rfl
  have i5 : w1.cell? ⟨w.heap.size, 5, none⟩ = some (.slice da dn dc) := by rw [cell_of_row w1 _ 5 _ _ _ hb1]; rfl
  have i6 : w1.cell? ⟨w.heap.size, 6, none⟩ = some (.int .i64 po) := by rw [cell_of_row w1 _ 6 _ _ _ hb1]; rfl
  have i7 : w1.cell? ⟨w.heap.size, 7, none⟩ = some (.int .i64 pf) := by rw [cell_of_row w1 _ 7 _ _ _ hb1]; rfl
  have i8 : w1.cell? ⟨w.heap.size, 8, none⟩ = some (.int .i64 pt) := by rw [cell_of_row w1 _ 8 _ _ _ hb1]; rfl
  have i9 : w1.cell? ⟨w.heap.size, 9, none⟩ = some (.slice pa pn pc) := by rw [cell_of_row w1 _ 9 _ _ _ hb1]; rfl
  have hc := create_at h1 (by omega) name hnm
  clear h h1 hb1 hk1 hi
  go_enter Try.func8, Try.ntmps8
  go_upto_region 1 with (fail)
  rw [← hw1]
  clear hw1
  go_wp2_with (go_at_call 22; refine hc.mono ?_; rintro e w2 ⟨rfl, ha⟩; have HA := hide ha; clear ha hc)
  go_ret
  exact ⟨rfl, HA.out.mono (by omega)⟩

set_option maxHeartbeats 1600000 in
set_option maxRecDepth 100000 in
theorem do_truncate {w0 w : World} {p : Nat} {S : Ds} {N : Nat} (h : At w0 w p S N) (name to : By) (at_ n : Int) (da : Option Addr) (dn dc : Nat) (ds : By) (po pf pt : Int) (pa : Option Addr) (pn pc : Nat) (ps : List Int) (hi : StpIn w ⟨4, name, to, at_, n, da, dn, dc, ds, po, pf, pt, pa, pn, pc, ps⟩) (hN : N + dn ≤ 268435456) (hpn : pn ≤ 1073741824) :
    Calls Try.prog 8 #[.pointer (some ⟨p, 0, none⟩), .agg #[.int .i64 4, encStr name, encStr to, .int .i64 at_, .int .i64 n, .slice da dn dc, .int .i64 po, .int .i64 pf, .int .i64 pt, .slice pa pn pc]] w fun e w' => e = .returned (.int .i64 (S.truncate name n).1) ∧ At w0 w' p (S.truncate name n).2 (N + dn + 3) := by
  have hnm : name.length ≤ 4611686018427387904 := hi.nm
  have htm : to.length ≤ 4611686018427387904 := hi.tm
  obtain ⟨w1, hw1⟩ : ∃ w1, w1 = w.alloc (.cells #[.int .i64 4, encStr name, encStr to, .int .i64 at_, .int .i64 n, .slice da dn dc, .int .i64 po, .int .i64 pf, .int .i64 pt, .slice pa pn pc] 37) := ⟨_, rfl⟩
  have hk1 : Kept [] w w1 := by rw [hw1]; exact (Kept.refl [] w).alloc _
  have h1 := h.kept hk1
  have hb1 : w1.heap[w.heap.size]? = some (.cells #[.int .i64 4, encStr name, encStr to, .int .i64 at_, .int .i64 n, .slice da dn dc, .int .i64 po, .int .i64 pf, .int .i64 pt, .slice pa pn pc] 37 (0, 0)) := by rw [hw1]; exact (MapKept.heap_alloc w _).1
  have i0 : w1.cell? ⟨w.heap.size, 0, none⟩ = some (.int .i64 4) := by rw [cell_of_row w1 _ 0 _ _ _ hb1]; rfl
  have i1 : w1.cell? ⟨w.heap.size, 1, none⟩ = some (encStr name) := by rw [cell_of_row w1 _ 1 _ _ _ hb1]; rfl
  have i2 : w1.cell? ⟨w.heap.size, 2, none⟩ = some (encStr to) := by rw [cell_of_row w1 _ 2 _ _ _ hb1]; rfl
  have i3 : w1.cell? ⟨w.heap.size, 3, none⟩ = some (.int .i64 at_) := by rw [cell_of_row w1 _ 3 _ _ _ hb1]; rfl
  have i4 : w1.cell? ⟨w.heap.size, 4, none⟩ = some (.int .i64 n) := by rw [cell_of_row w1 _ 4 _ _ _ hb1]; rfl
  have i5 : w1.cell? ⟨w.heap.size, 5, none⟩ = some (.slice da dn dc) := by rw [cell_of_row w1 _ 5 _ _ _ hb1]; rfl
  have i6 : w1.cell? ⟨w.heap.size, 6, none⟩ = some (.int .i64 po) := by rw [cell_of_row w1 _ 6 _ _ _ hb1]; rfl
  have i7 : w1.cell? ⟨w.heap.size, 7, none⟩ = some (.int .i64 pf) := by rw [cell_of_row w1 _ 7 _ _ _ hb1]; rfl
  have i8 : w1.cell? ⟨w.heap.size, 8, none⟩ = some (.int .i64 pt) := by rw [cell_of_row w1 _ 8 _ _ _ hb1]; rfl
  have i9 : w1.cell? ⟨w.heap.size, 9, none⟩ = some (.slice pa pn pc) := by rw [cell_of_row w1 _ 9 _ _ _ hb1]; rfl
  have hc := truncate_at h1 (by omega) name hnm n
  clear h h1 hb1 hk1 hi
  go_enter Try.func8, Try.ntmps8
  go_upto_region 1 with (fail)
  rw [← hw1]
  clear hw1
  go_wp2_with (go_at_call 25; refine hc.mono ?_; rintro e w2 ⟨rfl, ha⟩; have HA := hide ha; clear ha hc)
  go_ret
  exact ⟨rfl, HA.out.mono (by omega)⟩

set_option maxHeartbeats 1600000 in
set_option maxRecDepth 100000 in
theorem do_rename {w0 w : World} {p : Nat} {S : Ds} {N : Nat} (h : At w0 w p S N) (name to : By) (at_ n : Int) (da : Option Addr) (dn dc : Nat) (ds : By) (po pf pt : Int) (pa : Option Addr) (pn pc : Nat) (ps : List Int) (hi : StpIn w ⟨5, name, to, at_, n, da, dn, dc, ds, po, pf, pt, pa, pn, pc, ps⟩) (hN : N + dn ≤ 268435456) (hpn : pn ≤ 1073741824) :
    Calls Try.prog 8 #[.pointer (some ⟨p, 0, none⟩), .agg #[.int .i64 5, encStr name, encStr to, .int .i64 at_, .int .i64 n, .slice da dn dc, .int .i64 po, .int .i64 pf, .int .i64 pt, .slice pa pn pc]] w fun e w' => e = .returned (.int .i64 (S.rename name to).1) ∧ At w0 w' p (S.rename name to).2 (N + dn + 3) := by
  have hnm : name.length ≤ 4611686018427387904 := hi.nm
  have htm : to.length ≤ 4611686018427387904 := hi.tm
  obtain ⟨w1, hw1⟩ : ∃ w1, w1 = w.alloc (.cells #[.int .i64 5, encStr name, encStr to, .int .i64 at_, .int .i64 n, .slice da dn dc, .int .i64 po, .int .i64 pf, .int .i64 pt, .slice pa pn pc] 37) := ⟨_, rfl⟩
  have hk1 : Kept [] w w1 := by rw [hw1]; exact (Kept.refl [] w).alloc _
  have h1 := h.kept hk1
  have hb1 : w1.heap[w.heap.size]? = some (.cells #[.int .i64 5, encStr name, encStr to, .int .i64 at_, .int .i64 n, .slice da dn dc, .int .i64 po, .int .i64 pf, .int .i64 pt, .slice pa pn pc] 37 (0, 0)) := by rw [hw1]; exact (MapKept.heap_alloc w _).1
  have i0 : w1.cell? ⟨w.heap.size, 0, none⟩ = some (.int .i64 5) := by rw [cell_of_row w1 _ 0 _ _ _ hb1]; rfl
  have i1 : w1.cell? ⟨w.heap.size, 1, none⟩ = some (encStr name) := by rw [cell_of_row w1 _ 1 _ _ _ hb1]; rfl
  have i2 : w1.cell? ⟨w.heap.size, 2, none⟩ = some (encStr to) := by rw [cell_of_row w1 _ 2 _ _ _ hb1]; rfl
  have i3 : w1.cell? ⟨w.heap.size, 3, none⟩ = some (.int .i64 at_) := by rw [cell_of_row w1 _ 3 _ _ _ hb1]; rfl
  have i4 : w1.cell? ⟨w.heap.size, 4, none⟩ = some (.int .i64 n) := by rw [cell_of_row w1 _ 4 _ _ _ hb1]; rfl
  have i5 : w1.cell? ⟨w.heap.size, 5, none⟩ = some (.slice da dn dc) := by rw [cell_of_row w1 _ 5 _ _ _ hb1]; rfl
  have i6 : w1.cell? ⟨w.heap.size, 6, none⟩ = some (.int .i64 po) := by rw [cell_of_row w1 _ 6 _ _ _ hb1]; rfl
  have i7 : w1.cell? ⟨w.heap.size, 7, none⟩ = some (.int .i64 pf) := by rw [cell_of_row w1 _ 7 _ _ _ hb1]; rfl
  have i8 : w1.cell? ⟨w.heap.size, 8, none⟩ = some (.int .i64 pt) := by rw [cell_of_row w1 _ 8 _ _ _ hb1]; rfl
  have i9 : w1.cell? ⟨w.heap.size, 9, none⟩ = some (.slice pa pn pc) := by rw [cell_of_row w1 _ 9 _ _ _ hb1]; rfl
  have hc := rename_at h1 (by omega) name to hnm htm
  clear h h1 hb1 hk1 hi
  go_enter Try.func8, Try.ntmps8
  go_upto_region 1 with (fail)
  rw [← hw1]
  clear hw1
  go_wp2_with (go_at_call 26; refine hc.mono ?_; rintro e w2 ⟨rfl, ha⟩; have HA := hide ha; clear ha hc)
  go_ret
  exact ⟨rfl, HA.out.mono (by omega)⟩

set_option maxHeartbeats 1600000 in
set_option maxRecDepth 100000 in
theorem do_remove {w0 w : World} {p : Nat} {S : Ds} {N : Nat} (h : At w0 w p S N) (name to : By) (at_ n : Int) (da : Option Addr) (dn dc : Nat) (ds : By) (po pf pt : Int) (pa : Option Addr) (pn pc : Nat) (ps : List Int) (hi : StpIn w ⟨6, name, to, at_, n, da, dn, dc, ds, po, pf, pt, pa, pn, pc, ps⟩) (hN : N + dn ≤ 268435456) (hpn : pn ≤ 1073741824) :
    Calls Try.prog 8 #[.pointer (some ⟨p, 0, none⟩), .agg #[.int .i64 6, encStr name, encStr to, .int .i64 at_, .int .i64 n, .slice da dn dc, .int .i64 po, .int .i64 pf, .int .i64 pt, .slice pa pn pc]] w fun e w' => e = .returned (.int .i64 (S.remove name).1) ∧ At w0 w' p (S.remove name).2 (N + dn + 3) := by
  have hnm : name.length ≤ 4611686018427387904 := hi.nm
  have htm : to.length ≤ 4611686018427387904 := hi.tm
  obtain ⟨w1, hw1⟩ : ∃ w1, w1 = w.alloc (.cells #[.int .i64 6, encStr name, encStr to, .int .i64 at_, .int .i64 n, .slice da dn dc, .int .i64 po, .int .i64 pf, .int .i64 pt, .slice pa pn pc] 37) := ⟨_, rfl⟩
  have hk1 : Kept [] w w1 := by rw [hw1]; exact (Kept.refl [] w).alloc _
  have h1 := h.kept hk1
  have hb1 : w1.heap[w.heap.size]? = some (.cells #[.int .i64 6, encStr name, encStr to, .int .i64 at_, .int .i64 n, .slice da dn dc, .int .i64 po, .int .i64 pf, .int .i64 pt, .slice pa pn pc] 37 (0, 0)) := by rw [hw1]; exact (MapKept.heap_alloc w _).1
  have i0 : w1.cell? ⟨w.heap.size, 0, none⟩ = some (.int .i64 6) := by rw [cell_of_row w1 _ 0 _ _ _ hb1]; rfl
  have i1 : w1.cell? ⟨w.heap.size, 1, none⟩ = some (encStr name) := by rw [cell_of_row w1 _ 1 _ _ _ hb1]; rfl
  have i2 : w1.cell? ⟨w.heap.size, 2, none⟩ = some (encStr to) := by rw [cell_of_row w1 _ 2 _ _ _ hb1]; rfl
  have i3 : w1.cell? ⟨w.heap.size, 3, none⟩ = some (.int .i64 at_) := by rw [cell_of_row w1 _ 3 _ _ _ hb1]; rfl
  have i4 : w1.cell? ⟨w.heap.size, 4, none⟩ = some (.int .i64 n) := by rw [cell_of_row w1 _ 4 _ _ _ hb1]; rfl
  have i5 : w1.cell? ⟨w.heap.size, 5, none⟩ = some (.slice da dn dc) := by rw [cell_of_row w1 _ 5 _ _ _ hb1]; rfl
  have i6 : w1.cell? ⟨w.heap.size, 6, none⟩ = some (.int .i64 po) := by rw [cell_of_row w1 _ 6 _ _ _ hb1]; rfl
  have i7 : w1.cell? ⟨w.heap.size, 7, none⟩ = some (.int .i64 pf) := by rw [cell_of_row w1 _ 7 _ _ _ hb1]; rfl
  have i8 : w1.cell? ⟨w.heap.size, 8, none⟩ = some (.int .i64 pt) := by rw [cell_of_row w1 _ 8 _ _ _ hb1]; rfl
  have i9 : w1.cell? ⟨w.heap.size, 9, none⟩ = some (.slice pa pn pc) := by rw [cell_of_row w1 _ 9 _ _ _ hb1]; rfl
  have hc := remove_at h1 (by omega) name hnm
  clear h h1 hb1 hk1 hi
  go_enter Try.func8, Try.ntmps8
  go_upto_region 1 with (fail)
  rw [← hw1]
  clear hw1
  go_wp2_with (go_at_call 27; refine hc.mono ?_; rintro e w2 ⟨rfl, ha⟩; have HA := hide ha; clear ha hc)
  go_ret
  exact ⟨rfl, HA.out.mono (by omega)⟩

set_option maxHeartbeats 1600000 in
set_option maxRecDepth 100000 in
theorem do_sync {w0 w : World} {p : Nat} {S : Ds} {N : Nat} (h : At w0 w p S N) (name to : By) (at_ n : Int) (da : Option Addr) (dn dc : Nat) (ds : By) (po pf pt : Int) (pa : Option Addr) (pn pc : Nat) (ps : List Int) (hi : StpIn w ⟨7, name, to, at_, n, da, dn, dc, ds, po, pf, pt, pa, pn, pc, ps⟩) (hN : N + dn ≤ 268435456) (hpn : pn ≤ 1073741824) :
    Calls Try.prog 8 #[.pointer (some ⟨p, 0, none⟩), .agg #[.int .i64 7, encStr name, encStr to, .int .i64 at_, .int .i64 n, .slice da dn dc, .int .i64 po, .int .i64 pf, .int .i64 pt, .slice pa pn pc]] w fun e w' => e = .returned (.int .i64 (S.sync name).1) ∧ At w0 w' p (S.sync name).2 (N + dn + 3) := by
  have hnm : name.length ≤ 4611686018427387904 := hi.nm
  have htm : to.length ≤ 4611686018427387904 := hi.tm
  obtain ⟨w1, hw1⟩ : ∃ w1, w1 = w.alloc (.cells #[.int .i64 7, encStr name, encStr to, .int .i64 at_, .int .i64 n, .slice da dn dc, .int .i64 po, .int .i64 pf, .int .i64 pt, .slice pa pn pc] 37) := ⟨_, rfl⟩
  have hk1 : Kept [] w w1 := by rw [hw1]; exact (Kept.refl [] w).alloc _
  have h1 := h.kept hk1
  have hb1 : w1.heap[w.heap.size]? = some (.cells #[.int .i64 7, encStr name, encStr to, .int .i64 at_, .int .i64 n, .slice da dn dc, .int .i64 po, .int .i64 pf, .int .i64 pt, .slice pa pn pc] 37 (0, 0)) := by rw [hw1]; exact (MapKept.heap_alloc w _).1
  have i0 : w1.cell? ⟨w.heap.size, 0, none⟩ = some (.int .i64 7) := by rw [cell_of_row w1 _ 0 _ _ _ hb1]; rfl
  have i1 : w1.cell? ⟨w.heap.size, 1, none⟩ = some (encStr name) := by rw [cell_of_row w1 _ 1 _ _ _ hb1]; rfl
  have i2 : w1.cell? ⟨w.heap.size, 2, none⟩ = some (encStr to) := by rw [cell_of_row w1 _ 2 _ _ _ hb1]; rfl
  have i3 : w1.cell? ⟨w.heap.size, 3, none⟩ = some (.int .i64 at_) := by rw [cell_of_row w1 _ 3 _ _ _ hb1]; rfl
  have i4 : w1.cell? ⟨w.heap.size, 4, none⟩ = some (.int .i64 n) := by rw [cell_of_row w1 _ 4 _ _ _ hb1]; rfl
  have i5 : w1.cell? ⟨w.heap.size, 5, none⟩ = some (.slice da dn dc) := by rw [cell_of_row w1 _ 5 _ _ _ hb1]; rfl
  have i6 : w1.cell? ⟨w.heap.size, 6, none⟩ = some (.int .i64 po) := by rw [cell_of_row w1 _ 6 _ _ _ hb1]; rfl
  have i7 : w1.cell? ⟨w.heap.size, 7, none⟩ = some (.int .i64 pf) := by rw [cell_of_row w1 _ 7 _ _ _ hb1]; rfl
  have i8 : w1.cell? ⟨w.heap.size, 8, none⟩ = some (.int .i64 pt) := by rw [cell_of_row w1 _ 8 _ _ _ hb1]; rfl
  have i9 : w1.cell? ⟨w.heap.size, 9, none⟩ = some (.slice pa pn pc) := by rw [cell_of_row w1 _ 9 _ _ _ hb1]; rfl
  have hc := sync_at h1 (by omega) name hnm
  clear h h1 hb1 hk1 hi
  go_enter Try.func8, Try.ntmps8
  go_upto_region 1 with (fail)
  rw [← hw1]
  clear hw1
  go_wp2_with (go_at_call 28; refine hc.mono ?_; rintro e w2 ⟨rfl, ha⟩; have HA := hide ha; clear ha hc)
  go_ret
  exact ⟨rfl, HA.out.mono (by omega)⟩

set_option maxHeartbeats 1600000 in
set_option maxRecDepth 100000 in
theorem do_names {w0 w : World} {p : Nat} {S : Ds} {N : Nat} (h : At w0 w p S N) (name to : By) (at_ n : Int) (da : Option Addr) (dn dc : Nat) (ds : By) (po pf pt : Int) (pa : Option Addr) (pn pc : Nat) (ps : List Int) (hi : StpIn w ⟨8, name, to, at_, n, da, dn, dc, ds, po, pf, pt, pa, pn, pc, ps⟩) (hN : N + dn ≤ 268435456) (hpn : pn ≤ 1073741824) :
    Calls Try.prog 8 #[.pointer (some ⟨p, 0, none⟩), .agg #[.int .i64 8, encStr name, encStr to, .int .i64 at_, .int .i64 n, .slice da dn dc, .int .i64 po, .int .i64 pf, .int .i64 pt, .slice pa pn pc]] w fun e w' => e = .returned (.int .i64 S.syncNames.1) ∧ At w0 w' p S.syncNames.2 (N + dn + 3) := by
  have hnm : name.length ≤ 4611686018427387904 := hi.nm
  have htm : to.length ≤ 4611686018427387904 := hi.tm
  obtain ⟨w1, hw1⟩ : ∃ w1, w1 = w.alloc (.cells #[.int .i64 8, encStr name, encStr to, .int .i64 at_, .int .i64 n, .slice da dn dc, .int .i64 po, .int .i64 pf, .int .i64 pt, .slice pa pn pc] 37) := ⟨_, rfl⟩
  have hk1 : Kept [] w w1 := by rw [hw1]; exact (Kept.refl [] w).alloc _
  have h1 := h.kept hk1
  have hb1 : w1.heap[w.heap.size]? = some (.cells #[.int .i64 8, encStr name, encStr to, .int .i64 at_, .int .i64 n, .slice da dn dc, .int .i64 po, .int .i64 pf, .int .i64 pt, .slice pa pn pc] 37 (0, 0)) := by rw [hw1]; exact (MapKept.heap_alloc w _).1
  have i0 : w1.cell? ⟨w.heap.size, 0, none⟩ = some (.int .i64 8) := by rw [cell_of_row w1 _ 0 _ _ _ hb1]; rfl
  have i1 : w1.cell? ⟨w.heap.size, 1, none⟩ = some (encStr name) := by rw [cell_of_row w1 _ 1 _ _ _ hb1]; rfl
  have i2 : w1.cell? ⟨w.heap.size, 2, none⟩ = some (encStr to) := by rw [cell_of_row w1 _ 2 _ _ _ hb1]; rfl
  have i3 : w1.cell? ⟨w.heap.size, 3, none⟩ = some (.int .i64 at_) := by rw [cell_of_row w1 _ 3 _ _ _ hb1]; rfl
  have i4 : w1.cell? ⟨w.heap.size, 4, none⟩ = some (.int .i64 n) := by rw [cell_of_row w1 _ 4 _ _ _ hb1]; rfl
  have i5 : w1.cell? ⟨w.heap.size, 5, none⟩ = some (.slice da dn dc) := by rw [cell_of_row w1 _ 5 _ _ _ hb1]; rfl
  have i6 : w1.cell? ⟨w.heap.size, 6, none⟩ = some (.int .i64 po) := by rw [cell_of_row w1 _ 6 _ _ _ hb1]; rfl
  have i7 : w1.cell? ⟨w.heap.size, 7, none⟩ = some (.int .i64 pf) := by rw [cell_of_row w1 _ 7 _ _ _ hb1]; rfl
  have i8 : w1.cell? ⟨w.heap.size, 8, none⟩ = some (.int .i64 pt) := by rw [cell_of_row w1 _ 8 _ _ _ hb1]; rfl
  have i9 : w1.cell? ⟨w.heap.size, 9, none⟩ = some (.slice pa pn pc) := by rw [cell_of_row w1 _ 9 _ _ _ hb1]; rfl
  have hc := syncNames_at h1 (by omega)
  clear h h1 hb1 hk1 hi
  go_enter Try.func8, Try.ntmps8
  go_upto_region 1 with (fail)
  rw [← hw1]
  clear hw1
  go_wp2_with (go_at_call 29; refine hc.mono ?_; rintro e w2 ⟨rfl, ha⟩; have HA := hide ha; clear ha hc)
  go_ret
  exact ⟨rfl, HA.out.mono (by omega)⟩

set_option maxHeartbeats 1600000 in
set_option maxRecDepth 100000 in
theorem do_read {w0 w : World} {p : Nat} {S : Ds} {N : Nat} (h : At w0 w p S N) (name to : By) (at_ n : Int) (da : Option Addr) (dn dc : Nat) (ds : By) (po pf pt : Int) (pa : Option Addr) (pn pc : Nat) (ps : List Int) (hi : StpIn w ⟨9, name, to, at_, n, da, dn, dc, ds, po, pf, pt, pa, pn, pc, ps⟩) (hN : N + dn ≤ 268435456) (hpn : pn ≤ 1073741824) :
    Calls Try.prog 8 #[.pointer (some ⟨p, 0, none⟩), .agg #[.int .i64 9, encStr name, encStr to, .int .i64 at_, .int .i64 n, .slice da dn dc, .int .i64 po, .int .i64 pf, .int .i64 pt, .slice pa pn pc]] w fun e w' => e = .returned (.int .i64 (S.readOk name at_ n)) ∧ At w0 w' p (S.read name at_ n) (N + dn + 3) := by
  have hnm : name.length ≤ 4611686018427387904 := hi.nm
  have htm : to.length ≤ 4611686018427387904 := hi.tm
  obtain ⟨w1, hw1⟩ : ∃ w1, w1 = w.alloc (.cells #[.int .i64 9, encStr name, encStr to, .int .i64 at_, .int .i64 n, .slice da dn dc, .int .i64 po, .int .i64 pf, .int .i64 pt, .slice pa pn pc] 37) := ⟨_, rfl⟩
  have hk1 : Kept [] w w1 := by rw [hw1]; exact (Kept.refl [] w).alloc _
  have h1 := h.kept hk1
  have hb1 : w1.heap[w.heap.size]? = some (.cells #[.int .i64 9, encStr name, encStr to, .int .i64 at_, .int .i64 n, .slice da dn dc, .int .i64 po, .int .i64 pf, .int .i64 pt, .slice pa pn pc] 37 (0, 0)) := by rw [hw1]; exact (MapKept.heap_alloc w _).1
  have i0 : w1.cell? ⟨w.heap.size, 0, none⟩ = some (.int .i64 9) := by rw [cell_of_row w1 _ 0 _ _ _ hb1]; rfl
  have i1 : w1.cell? ⟨w.heap.size, 1, none⟩ = some (encStr name) := by rw [cell_of_row w1 _ 1 _ _ _ hb1]; rfl
  have i2 : w1.cell? ⟨w.heap.size, 2, none⟩ = some (encStr to) := by rw [cell_of_row w1 _ 2 _ _ _ hb1]; rfl
  have i3 : w1.cell? ⟨w.heap.size, 3, none⟩ = some (.int .i64 at_) := by rw [cell_of_row w1 _ 3 _ _ _ hb1]; rfl
  have i4 : w1.cell? ⟨w.heap.size, 4, none⟩ = some (.int .i64 n) := by rw [cell_of_row w1 _ 4 _ _ _ hb1]; rfl
  have i5 : w1.cell? ⟨w.heap.size, 5, none⟩ = some (.slice da dn dc) := by rw [cell_of_row w1 _ 5 _ _ _ hb1]; rfl
  have i6 : w1.cell? ⟨w.heap.size, 6, none⟩ = some (.int .i64 po) := by rw [cell_of_row w1 _ 6 _ _ _ hb1]; rfl
  have i7 : w1.cell? ⟨w.heap.size, 7, none⟩ = some (.int .i64 pf) := by rw [cell_of_row w1 _ 7 _ _ _ hb1]; rfl
  have i8 : w1.cell? ⟨w.heap.size, 8, none⟩ = some (.int .i64 pt) := by rw [cell_of_row w1 _ 8 _ _ _ hb1]; rfl
  have i9 : w1.cell? ⟨w.heap.size, 9, none⟩ = some (.slice pa pn pc) := by rw [cell_of_row w1 _ 9 _ _ _ hb1]; rfl
  have hc := read_at h1 (by omega) name hnm at_ n
  clear h h1 hb1 hk1 hi
  go_enter Try.func8, Try.ntmps8
  go_upto_region 1 with (fail)
  rw [← hw1]
  clear hw1
  go_wp2_with (go_at_call 30; refine hc.mono ?_; rintro e w2 ⟨v, rfl, ha, _⟩; have HA := hide ha; clear ha hc)
  go_ret
  exact ⟨rfl, HA.out.mono (by omega)⟩

set_option maxHeartbeats 1600000 in
set_option maxRecDepth 100000 in
theorem do_size {w0 w : World} {p : Nat} {S : Ds} {N : Nat} (h : At w0 w p S N) (name to : By) (at_ n : Int) (da : Option Addr) (dn dc : Nat) (ds : By) (po pf pt : Int) (pa : Option Addr) (pn pc : Nat) (ps : List Int) (hi : StpIn w ⟨10, name, to, at_, n, da, dn, dc, ds, po, pf, pt, pa, pn, pc, ps⟩) (hN : N + dn ≤ 268435456) (hpn : pn ≤ 1073741824) :
    Calls Try.prog 8 #[.pointer (some ⟨p, 0, none⟩), .agg #[.int .i64 10, encStr name, encStr to, .int .i64 at_, .int .i64 n, .slice da dn dc, .int .i64 po, .int .i64 pf, .int .i64 pt, .slice pa pn pc]] w fun e w' => e = .returned (.int .i64 (S.find name).1) ∧ At w0 w' p S (N + dn + 3) := by
  have hnm : name.length ≤ 4611686018427387904 := hi.nm
  have htm : to.length ≤ 4611686018427387904 := hi.tm
  obtain ⟨w1, hw1⟩ : ∃ w1, w1 = w.alloc (.cells #[.int .i64 10, encStr name, encStr to, .int .i64 at_, .int .i64 n, .slice da dn dc, .int .i64 po, .int .i64 pf, .int .i64 pt, .slice pa pn pc] 37) := ⟨_, rfl⟩
  have hk1 : Kept [] w w1 := by rw [hw1]; exact (Kept.refl [] w).alloc _
  have h1 := h.kept hk1
  have hb1 : w1.heap[w.heap.size]? = some (.cells #[.int .i64 10, encStr name, encStr to, .int .i64 at_, .int .i64 n, .slice da dn dc, .int .i64 po, .int .i64 pf, .int .i64 pt, .slice pa pn pc] 37 (0, 0)) := by rw [hw1]; exact (MapKept.heap_alloc w _).1
  have i0 : w1.cell? ⟨w.heap.size, 0, none⟩ = some (.int .i64 10) := by rw [cell_of_row w1 _ 0 _ _ _ hb1]; rfl
  have i1 : w1.cell? ⟨w.heap.size, 1, none⟩ = some (encStr name) := by rw [cell_of_row w1 _ 1 _ _ _ hb1]; rfl
  have i2 : w1.cell? ⟨w.heap.size, 2, none⟩ = some (encStr to) := by rw [cell_of_row w1 _ 2 _ _ _ hb1]; rfl
  have i3 : w1.cell? ⟨w.heap.size, 3, none⟩ = some (.int .i64 at_) := by rw [cell_of_row w1 _ 3 _ _ _ hb1]; rfl
  have i4 : w1.cell? ⟨w.heap.size, 4, none⟩ = some (.int .i64 n) := by rw [cell_of_row w1 _ 4 _ _ _ hb1]; rfl
  have i5 : w1.cell? ⟨w.heap.size, 5, none⟩ = some (.slice da dn dc) := by rw [cell_of_row w1 _ 5 _ _ _ hb1]; rfl
  have i6 : w1.cell? ⟨w.heap.size, 6, none⟩ = some (.int .i64 po) := by rw [cell_of_row w1 _ 6 _ _ _ hb1]; rfl
  have i7 : w1.cell? ⟨w.heap.size, 7, none⟩ = some (.int .i64 pf) := by rw [cell_of_row w1 _ 7 _ _ _ hb1]; rfl
  have i8 : w1.cell? ⟨w.heap.size, 8, none⟩ = some (.int .i64 pt) := by rw [cell_of_row w1 _ 8 _ _ _ hb1]; rfl
  have i9 : w1.cell? ⟨w.heap.size, 9, none⟩ = some (.slice pa pn pc) := by rw [cell_of_row w1 _ 9 _ _ _ hb1]; rfl
  have hc := size_at h1 name hnm
  have HA1 := hide h1
  clear h h1 hb1 hk1 hi
  go_enter Try.func8, Try.ntmps8
  go_upto_region 1 with (fail)
  rw [← hw1]
  clear hw1
  go_wp2_with (go_at_call 31; refine hc.mono ?_; rintro e w2 ⟨rfl, rfl⟩; have ha := HA1.out; have HA := hide ha; clear ha hc)
  go_ret
  exact ⟨rfl, HA.out.mono (by omega)⟩

set_option maxHeartbeats 1600000 in
set_option maxRecDepth 100000 in
theorem do_plan {w0 w : World} {p : Nat} {S : Ds} {N : Nat} (h : At w0 w p S N) (name to : By) (at_ n : Int) (da : Option Addr) (dn dc : Nat) (ds : By) (po pf pt : Int) (pa : Option Addr) (pn pc : Nat) (ps : List Int) (hi : StpIn w ⟨11, name, to, at_, n, da, dn, dc, ds, po, pf, pt, pa, pn, pc, ps⟩) (hN : N + dn ≤ 268435456) (hpn : pn ≤ 1073741824) :
    Calls Try.prog 8 #[.pointer (some ⟨p, 0, none⟩), .agg #[.int .i64 11, encStr name, encStr to, .int .i64 at_, .int .i64 n, .slice da dn dc, .int .i64 po, .int .i64 pf, .int .i64 pt, .slice pa pn pc]] w fun e w' => e = .returned (.int .i64 0) ∧ At w0 w' p (S.setPlan po pf pt) (N + dn + 3) := by
  have hnm : name.length ≤ 4611686018427387904 := hi.nm
  have htm : to.length ≤ 4611686018427387904 := hi.tm
  obtain ⟨w1, hw1⟩ : ∃ w1, w1 = w.alloc (.cells #[.int .i64 11, encStr name, encStr to, .int .i64 at_, .int .i64 n, .slice da dn dc, .int .i64 po, .int .i64 pf, .int .i64 pt, .slice pa pn pc] 37) := ⟨_, rfl⟩
  have hk1 : Kept [] w w1 := by rw [hw1]; exact (Kept.refl [] w).alloc _
  have h1 := h.kept hk1
  have hb1 : w1.heap[w.heap.size]? = some (.cells #[.int .i64 11, encStr name, encStr to, .int .i64 at_, .int .i64 n, .slice da dn dc, .int .i64 po, .int .i64 pf, .int .i64 pt, .slice pa pn pc] 37 (0, 0)) := by rw [hw1]; exact (MapKept.heap_alloc w _).1
  have i0 : w1.cell? ⟨w.heap.size, 0, none⟩ = some (.int .i64 11) := by rw [cell_of_row w1 _ 0 _ _ _ hb1]; rfl
  have i1 : w1.cell? ⟨w.heap.size, 1, none⟩ = some (encStr name) := by rw [cell_of_row w1 _ 1 _ _ _ hb1]; rfl
  have i2 : w1.cell? ⟨w.heap.size, 2, none⟩ = some (encStr to) := by rw [cell_of_row w1 _ 2 _ _ _ hb1]; rfl
  have i3 : w1.cell? ⟨w.heap.size, 3, none⟩ = some (.int .i64 at_) := by rw [cell_of_row w1 _ 3 _ _ _ hb1]; rfl
  have i4 : w1.cell? ⟨w.heap.size, 4, none⟩ = some (.int .i64 n) := by rw [cell_of_row w1 _ 4 _ _ _ hb1]; rfl
  have i5 : w1.cell? ⟨w.heap.size, 5, none⟩ = some (.slice da dn dc) := by rw [cell_of_row w1 _ 5 _ _ _ hb1]; rfl
  have i6 : w1.cell? ⟨w.heap.size, 6, none⟩ = some (.int .i64 po) := by rw [cell_of_row w1 _ 6 _ _ _ hb1]; rfl
  have i7 : w1.cell? ⟨w.heap.size, 7, none⟩ = some (.int .i64 pf) := by rw [cell_of_row w1 _ 7 _ _ _ hb1]; rfl
  have i8 : w1.cell? ⟨w.heap.size, 8, none⟩ = some (.int .i64 pt) := by rw [cell_of_row w1 _ 8 _ _ _ hb1]; rfl
  have i9 : w1.cell? ⟨w.heap.size, 9, none⟩ = some (.slice pa pn pc) := by rw [cell_of_row w1 _ 9 _ _ _ hb1]; rfl
  have hc := plan_at h1 po pf pt ⟨hi.wo, hi.wf, hi.wt⟩
  clear h h1 hb1 hk1 hi
  go_enter Try.func8, Try.ntmps8
  go_upto_region 1 with (fail)
  rw [← hw1]
  clear hw1
  go_wp2_with (go_at_call 32; refine hc.mono ?_; rintro e w2 ⟨rfl, ha⟩; have HA := hide ha; clear ha hc)
  go_ret
  exact ⟨rfl, HA.out.mono (by omega)⟩

set_option maxHeartbeats 1600000 in
set_option maxRecDepth 100000 in
theorem do_look {w0 w : World} {p : Nat} {S : Ds} {N : Nat} (h : At w0 w p S N) (name to : By) (at_ n : Int) (da : Option Addr) (dn dc : Nat) (ds : By) (po pf pt : Int) (pa : Option Addr) (pn pc : Nat) (ps : List Int) (hi : StpIn w ⟨13, name, to, at_, n, da, dn, dc, ds, po, pf, pt, pa, pn, pc, ps⟩) (hN : N + dn ≤ 268435456) (hpn : pn ≤ 1073741824) :
    Calls Try.prog 8 #[.pointer (some ⟨p, 0, none⟩), .agg #[.int .i64 13, encStr name, encStr to, .int .i64 at_, .int .i64 n, .slice da dn dc, .int .i64 po, .int .i64 pf, .int .i64 pt, .slice pa pn pc]] w fun e w' => e = .returned (.int .i64 0) ∧ At w0 w' p S.look (N + dn + 3) := by
  have hnm : name.length ≤ 4611686018427387904 := hi.nm
  have htm : to.length ≤ 4611686018427387904 := hi.tm
  obtain ⟨w1, hw1⟩ : ∃ w1, w1 = w.alloc (.cells #[.int .i64 13, encStr name, encStr to, .int .i64 at_, .int .i64 n, .slice da dn dc, .int .i64 po, .int .i64 pf, .int .i64 pt, .slice pa pn pc] 37) := ⟨_, rfl⟩
  have hk1 : Kept [] w w1 := by rw [hw1]; exact (Kept.refl [] w).alloc _
  have h1 := h.kept hk1
  have hb1 : w1.heap[w.heap.size]? = some (.cells #[.int .i64 13, encStr name, encStr to, .int .i64 at_, .int .i64 n, .slice da dn dc, .int .i64 po, .int .i64 pf, .int .i64 pt, .slice pa pn pc] 37 (0, 0)) := by rw [hw1]; exact (MapKept.heap_alloc w _).1
  have i0 : w1.cell? ⟨w.heap.size, 0, none⟩ = some (.int .i64 13) := by rw [cell_of_row w1 _ 0 _ _ _ hb1]; rfl
  have i1 : w1.cell? ⟨w.heap.size, 1, none⟩ = some (encStr name) := by rw [cell_of_row w1 _ 1 _ _ _ hb1]; rfl
  have i2 : w1.cell? ⟨w.heap.size, 2, none⟩ = some (encStr to) := by rw [cell_of_row w1 _ 2 _ _ _ hb1]; rfl
  have i3 : w1.cell? ⟨w.heap.size, 3, none⟩ = some (.int .i64 at_) := by rw [cell_of_row w1 _ 3 _ _ _ hb1]; rfl
  have i4 : w1.cell? ⟨w.heap.size, 4, none⟩ = some (.int .i64 n) := by rw [cell_of_row w1 _ 4 _ _ _ hb1]; rfl
  have i5 : w1.cell? ⟨w.heap.size, 5, none⟩ = some (.slice da dn dc) := by rw [cell_of_row w1 _ 5 _ _ _ hb1]; rfl
  have i6 : w1.cell? ⟨w.heap.size, 6, none⟩ = some (.int .i64 po) := by rw [cell_of_row w1 _ 6 _ _ _ hb1]; rfl
  have i7 : w1.cell? ⟨w.heap.size, 7, none⟩ = some (.int .i64 pf) := by rw [cell_of_row w1 _ 7 _ _ _ hb1]; rfl
  have i8 : w1.cell? ⟨w.heap.size, 8, none⟩ = some (.int .i64 pt) := by rw [cell_of_row w1 _ 8 _ _ _ hb1]; rfl
  have i9 : w1.cell? ⟨w.heap.size, 9, none⟩ = some (.slice pa pn pc) := by rw [cell_of_row w1 _ 9 _ _ _ hb1]; rfl
  have hc := look_at h1
  clear h h1 hb1 hk1 hi
  go_enter Try.func8, Try.ntmps8
  go_upto_region 1 with (fail)
  rw [← hw1]
  clear hw1
  go_wp2_with (go_at_call 33; refine hc.mono ?_; rintro e w2 ⟨rfl, ha⟩; have HA := hide ha; clear ha hc)
  go_ret
  exact ⟨rfl, HA.out.mono (by omega)⟩

set_option maxHeartbeats 1600000 in
set_option maxRecDepth 100000 in
theorem do_none (K : Int) (hK : K < 1 ∨ 13 < K) {w0 w : World} {p : Nat} {S : Ds} {N : Nat} (h : At w0 w p S N) (name to : By) (at_ n : Int) (da : Option Addr) (dn dc : Nat) (ds : By) (po pf pt : Int) (pa : Option Addr) (pn pc : Nat) (ps : List Int) (hi : StpIn w ⟨K, name, to, at_, n, da, dn, dc, ds, po, pf, pt, pa, pn, pc, ps⟩) (hN : N + dn ≤ 268435456) (hpn : pn ≤ 1073741824) :
    Calls Try.prog 8 #[.pointer (some ⟨p, 0, none⟩), .agg #[.int .i64 K, encStr name, encStr to, .int .i64 at_, .int .i64 n, .slice da dn dc, .int .i64 po, .int .i64 pf, .int .i64 pt, .slice pa pn pc]] w fun e w' => e = .returned (.int .i64 0) ∧ At w0 w' p S (N + dn + 3) := by
  have hnm : name.length ≤ 4611686018427387904 := hi.nm
  have htm : to.length ≤ 4611686018427387904 := hi.tm
  obtain ⟨w1, hw1⟩ : ∃ w1, w1 = w.alloc (.cells #[.int .i64 K, encStr name, encStr to, .int .i64 at_, .int .i64 n, .slice da dn dc, .int .i64 po, .int .i64 pf, .int .i64 pt, .slice pa pn pc] 37) := ⟨_, rfl⟩
  have hk1 : Kept [] w w1 := by rw [hw1]; exact (Kept.refl [] w).alloc _
  have h1 := h.kept hk1
  have hb1 : w1.heap[w.heap.size]? = some (.cells #[.int .i64 K, encStr name, encStr to, .int .i64 at_, .int .i64 n, .slice da dn dc, .int .i64 po, .int .i64 pf, .int .i64 pt, .slice pa pn pc] 37 (0, 0)) := by rw [hw1]; exact (MapKept.heap_alloc w _).1
  have i0 : w1.cell? ⟨w.heap.size, 0, none⟩ = some (.int .i64 K) := by rw [cell_of_row w1 _ 0 _ _ _ hb1]; rfl
  have i1 : w1.cell? ⟨w.heap.size, 1, none⟩ = some (encStr name) := by rw [cell_of_row w1 _ 1 _ _ _ hb1]; rfl
  have i2 : w1.cell? ⟨w.heap.size, 2, none⟩ = some (encStr to) := by rw [cell_of_row w1 _ 2 _ _ _ hb1]; rfl
  have i3 : w1.cell? ⟨w.heap.size, 3, none⟩ = some (.int .i64 at_) := by rw [cell_of_row w1 _ 3 _ _ _ hb1]; rfl
  have i4 : w1.cell? ⟨w.heap.size, 4, none⟩ = some (.int .i64 n) := by rw [cell_of_row w1 _ 4 _ _ _ hb1]; rfl
  have i5 : w1.cell? ⟨w.heap.size, 5, none⟩ = some (.slice da dn dc) := by rw [cell_of_row w1 _ 5 _ _ _ hb1]; rfl
  have i6 : w1.cell? ⟨w.heap.size, 6, none⟩ = some (.int .i64 po) := by rw [cell_of_row w1 _ 6 _ _ _ hb1]; rfl
  have i7 : w1.cell? ⟨w.heap.size, 7, none⟩ = some (.int .i64 pf) := by rw [cell_of_row w1 _ 7 _ _ _ hb1]; rfl
  have i8 : w1.cell? ⟨w.heap.size, 8, none⟩ = some (.int .i64 pt) := by rw [cell_of_row w1 _ 8 _ _ _ hb1]; rfl
  have i9 : w1.cell? ⟨w.heap.size, 9, none⟩ = some (.slice pa pn pc) := by rw [cell_of_row w1 _ 9 _ _ _ hb1]; rfl
  have e1 : (K == 1) = false := by simp; omega
  have e2 : (K == 2) = false := by simp; omega
  have e3 : (K == 3) = false := by simp; omega
  have e4 : (K == 4) = false := by simp; omega
  have e5 : (K == 5) = false := by simp; omega
  have e6 : (K == 6) = false := by simp; omega
  have e7 : (K == 7) = false := by simp; omega
  have e8 : (K == 8) = false := by simp; omega
  have e9 : (K == 9) = false := by simp; omega
  have e10 : (K == 10) = false := by simp; omega
  have e11 : (K == 11) = false := by simp; omega
  have e12 : (K == 12) = false := by simp; omega
  have e13 : (K == 13) = false := by simp; omega
  have HA := hide h1
  clear h h1 hb1 hk1 hi hK
  go_enter Try.func8, Try.ntmps8
  go_upto_region 1 with (fail)
  rw [← hw1]
  clear hw1
  go_wp2
  go_ret
  exact ⟨rfl, HA.out.mono (by omega)⟩

set_option maxHeartbeats 1600000 in
set_option maxRecDepth 100000 in
theorem do_crash {w0 w : World} {p : Nat} {S : Ds} {N : Nat} (h : At w0 w p S N) (name to : By) (at_ n : Int) (da : Option Addr) (dn dc : Nat) (ds : By) (po pf pt : Int) (pa : Option Addr) (pn pc : Nat) (ps : List Int) (hi : StpIn w ⟨12, name, to, at_, n, da, dn, dc, ds, po, pf, pt, pa, pn, pc, ps⟩) (hN : N + dn ≤ 268435456) (hpn : pn ≤ 1073741824) :
    Calls Try.prog 8 #[.pointer (some ⟨p, 0, none⟩), .agg #[.int .i64 12, encStr name, encStr to, .int .i64 at_, .int .i64 n, .slice da dn dc, .int .i64 po, .int .i64 pf, .int .i64 pt, .slice pa pn pc]] w fun e w' => e = .returned (.int .i64 0) ∧ At w0 w' p (S.crash ps) (N + dn + 3) := by
  have hnm : name.length ≤ 4611686018427387904 := hi.nm
  have htm : to.length ≤ 4611686018427387904 := hi.tm
  obtain ⟨w1, hw1⟩ : ∃ w1, w1 = w.alloc (.cells #[.int .i64 12, encStr name, encStr to, .int .i64 at_, .int .i64 n, .slice da dn dc, .int .i64 po, .int .i64 pf, .int .i64 pt, .slice pa pn pc] 37) := ⟨_, rfl⟩
  have hk1 : Kept [] w w1 := by rw [hw1]; exact (Kept.refl [] w).alloc _
  have h1 := h.kept hk1
  have hb1 : w1.heap[w.heap.size]? = some (.cells #[.int .i64 12, encStr name, encStr to, .int .i64 at_, .int .i64 n, .slice da dn dc, .int .i64 po, .int .i64 pf, .int .i64 pt, .slice pa pn pc] 37 (0, 0)) := by rw [hw1]; exact (MapKept.heap_alloc w _).1
  have i0 : w1.cell? ⟨w.heap.size, 0, none⟩ = some (.int .i64 12) := by rw [cell_of_row w1 _ 0 _ _ _ hb1]; rfl
  have i1 : w1.cell? ⟨w.heap.size, 1, none⟩ = some (encStr name) := by rw [cell_of_row w1 _ 1 _ _ _ hb1]; rfl
  have i2 : w1.cell? ⟨w.heap.size, 2, none⟩ = some (encStr to) := by rw [cell_of_row w1 _ 2 _ _ _ hb1]; rfl
  have i3 : w1.cell? ⟨w.heap.size, 3, none⟩ = some (.int .i64 at_) := by rw [cell_of_row w1 _ 3 _ _ _ hb1]; rfl
  have i4 : w1.cell? ⟨w.heap.size, 4, none⟩ = some (.int .i64 n) := by rw [cell_of_row w1 _ 4 _ _ _ hb1]; rfl
  have i5 : w1.cell? ⟨w.heap.size, 5, none⟩ = some (.slice da dn dc) := by rw [cell_of_row w1 _ 5 _ _ _ hb1]; rfl
  have i6 : w1.cell? ⟨w.heap.size, 6, none⟩ = some (.int .i64 po) := by rw [cell_of_row w1 _ 6 _ _ _ hb1]; rfl
  have i7 : w1.cell? ⟨w.heap.size, 7, none⟩ = some (.int .i64 pf) := by rw [cell_of_row w1 _ 7 _ _ _ hb1]; rfl
  have i8 : w1.cell? ⟨w.heap.size, 8, none⟩ = some (.int .i64 pt) := by rw [cell_of_row w1 _ 8 _ _ _ hb1]; rfl
  have i9 : w1.cell? ⟨w.heap.size, 9, none⟩ = some (.slice pa pn pc) := by rw [cell_of_row w1 _ 9 _ _ _ hb1]; rfl
  obtain ⟨g, gc, w2, hap, hs2, hk2, hg2⟩ := fresh_ints w1 35 pa pn pc ps hi.pl (hi.pr.kept (Keep.ofNone (F := fun _ => False) hk1) (fun _ _ _ h => h)) hi.pz hi.pm
  have hc := crash_at h1 hk2 (by omega) (n := pn) (c := gc) hi.pl hs2 hi.pw hpn (fun _ a ha => by injection ha with ha; subst ha; exact .inl hg2)
  have i9' : (w1.alloc (.cells #[] 3)).cell? ⟨w.heap.size, 9, none⟩ = some (.slice pa pn pc) := ((Kept.refl [] w1).alloc _).cellOf i9 (by simp)
  clear h h1 hb1 hk1 hi hs2 hk2 hg2
  go_enter Try.func8, Try.ntmps8
  go_upto_region 1 with (fail)
  rw [← hw1]
  clear hw1
  go_wp2_with (first
    | (at_builtin; have Ha := hap; refine wpList_app_run rfl _ _ 35 35 rfl _ _ rfl rfl _ _ hap ?_; clear Ha hap)
    | (go_at_call 15; refine hc.mono ?_; rintro e w3 ⟨rfl, ha⟩; have HA := hide ha; clear ha hc))
  go_ret
  exact ⟨rfl, HA.out.mono (by omega)⟩

set_option maxHeartbeats 1600000 in
set_option maxRecDepth 100000 in
theorem do_write {w0 w : World} {p : Nat} {S : Ds} {N : Nat} (h : At w0 w p S N) (name to : By) (at_ n : Int) (da : Option Addr) (dn dc : Nat) (ds : By) (po pf pt : Int) (pa : Option Addr) (pn pc : Nat) (ps : List Int) (hi : StpIn w ⟨2, name, to, at_, n, da, dn, dc, ds, po, pf, pt, pa, pn, pc, ps⟩) (hN : N + dn ≤ 268435456) (hpn : pn ≤ 1073741824) :
    Calls Try.prog 8 #[.pointer (some ⟨p, 0, none⟩), .agg #[.int .i64 2, encStr name, encStr to, .int .i64 at_, .int .i64 n, .slice da dn dc, .int .i64 po, .int .i64 pf, .int .i64 pt, .slice pa pn pc]] w fun e w' => e = .returned (.int .i64 (S.writeAt name at_ ds).1) ∧ At w0 w' p (S.writeAt name at_ ds).2 (N + dn + 3) := by
  have hnm : name.length ≤ 4611686018427387904 := hi.nm
  have htm : to.length ≤ 4611686018427387904 := hi.tm
  obtain ⟨w1, hw1⟩ : ∃ w1, w1 = w.alloc (.cells #[.int .i64 2, encStr name, encStr to, .int .i64 at_, .int .i64 n, .slice da dn dc, .int .i64 po, .int .i64 pf, .int .i64 pt, .slice pa pn pc] 37) := ⟨_, rfl⟩
  have hk1 : Kept [] w w1 := by rw [hw1]; exact (Kept.refl [] w).alloc _
  have h1 := h.kept hk1
  have hb1 : w1.heap[w.heap.size]? = some (.cells #[.int .i64 2, encStr name, encStr to, .int .i64 at_, .int .i64 n, .slice da dn dc, .int .i64 po, .int .i64 pf, .int .i64 pt, .slice pa pn pc] 37 (0, 0)) := by rw [hw1]; exact (MapKept.heap_alloc w _).1
  have i0 : w1.cell? ⟨w.heap.size, 0, none⟩ = some (.int .i64 2) := by rw [cell_of_row w1 _ 0 _ _ _ hb1]; rfl
  have i1 : w1.cell? ⟨w.heap.size, 1, none⟩ = some (encStr name) := by rw [cell_of_row w1 _ 1 _ _ _ hb1]; rfl
  have i2 : w1.cell? ⟨w.heap.size, 2, none⟩ = some (encStr to) := by rw [cell_of_row w1 _ 2 _ _ _ hb1]; rfl
  have i3 : w1.cell? ⟨w.heap.size, 3, none⟩ = some (.int .i64 at_) := by rw [cell_of_row w1 _ 3 _ _ _ hb1]; rfl
  have i4 : w1.cell? ⟨w.heap.size, 4, none⟩ = some (.int .i64 n) := by rw [cell_of_row w1 _ 4 _ _ _ hb1]; rfl
  have i5 : w1.cell? ⟨w.heap.size, 5, none⟩ = some (.slice da dn dc) := by rw [cell_of_row w1 _ 5 _ _ _ hb1]; rfl
  have i6 : w1.cell? ⟨w.heap.size, 6, none⟩ = some (.int .i64 po) := by rw [cell_of_row w1 _ 6 _ _ _ hb1]; rfl
  have i7 : w1.cell? ⟨w.heap.size, 7, none⟩ = some (.int .i64 pf) := by rw [cell_of_row w1 _ 7 _ _ _ hb1]; rfl
  have i8 : w1.cell? ⟨w.heap.size, 8, none⟩ = some (.int .i64 pt) := by rw [cell_of_row w1 _ 8 _ _ _ hb1]; rfl
  have i9 : w1.cell? ⟨w.heap.size, 9, none⟩ = some (.slice pa pn pc) := by rw [cell_of_row w1 _ 9 _ _ _ hb1]; rfl
  have hd5 := hi.inb
  have HFR : Hid (∀ v, Kept [] w1 v → ∃ g c' w', (Builtin.append_ #[32, 32] 32 #[.slice (some ⟨v.heap.size, 0, none⟩) 0 0, .slice da dn dc]).run Try.prog (v.alloc (.cells #[] 5)) = .ok (.slice (some ⟨g, 0, none⟩) dn c') w' ∧ Sl w' (some ⟨g, 0, none⟩) ds ∧ Kept [] v w' ∧ v.heap.size ≤ g) := fun v hv =>
    fresh_bytes v 32 da dn dc ds hd5.len (hd5.sl.keep (Keep.ofNone (F := fun _ => False) (hk1.trans hv (by simp))) (fun _ _ _ h => h)) (fun e => ⟨by have := (hd5.nil e).1; have h2 := hd5.len; rw [this] at h2; exact h2.symm, (hd5.nil e).2⟩) (by have := hd5.max; omega)
  have HC : Hid (∀ v w2 g c, Kept [] w1 v → Kept [] v w2 → Sl w2 (some ⟨g, 0, none⟩) ds → v.heap.size ≤ g → Calls Try.prog 23 #[.pointer (some ⟨p, 0, none⟩), encStr name, .int .i64 at_, .slice (some ⟨g, 0, none⟩) dn c] w2 fun e w' => e = .returned (.int .i64 (S.writeAt name at_ ds).1) ∧ At w0 w' p (S.writeAt name at_ ds).2 (N + dn + 2)) := fun v w2 g c hv hk2 hs2 hg =>
    writeAt_at (h1.kept hv) hk2 (by omega) name hnm at_ hd5.len hs2 (by simp) (fun _ a ha => by injection ha with ha; subst ha; exact .inl hg)
  clear h h1 hb1 hk1 hi hd5
  go_enter Try.func8, Try.ntmps8
  go_upto_region 1 with (fail)
  rw [← hw1]
  clear hw1
  go_upto_region 5 with (fail)
  refine wp_region_late (fun w' => Kept [] w1 w') (fun i => i == 9) (by kernel_rfl) ?_
  have h0 : Kept [] w1 w1.drew := (Kept.refl [] w1).drew
  generalize World.drew w1 = v0 at h0 ⊢
  refine wpAnyL_free (i := 0) (v := .pointer (some ⟨p, 0, none⟩)) rfl (by kernel_rfl) (by kernel_rfl) (by kernel_rfl) (fun _ _ _ h => h) (Or.inl ⟨by rfl, fun w _ => by go_simp⟩) ?_
  try simp only [List.getElem_toArray, List.getElem_cons_zero, List.getElem_cons_succ, Act.put, List.setIfInBounds_toArray, List.set_cons_zero, List.set_cons_succ]
  refine wpAnyL_free (i := 1) (v := .pointer (some ⟨w.heap.size, 1, none⟩)) rfl (by kernel_rfl) (by kernel_rfl) (by kernel_rfl) (fun _ _ _ h => h) (Or.inl ⟨by rfl, fun w _ => by go_simp⟩) ?_
  try simp only [List.getElem_toArray, List.getElem_cons_zero, List.getElem_cons_succ, Act.put, List.setIfInBounds_toArray, List.set_cons_zero, List.set_cons_succ]
  refine wpAnyL_take (i := 2) (v := encStr name) rfl (by kernel_rfl) (by kernel_rfl) (by kernel_rfl) (by kernel_rfl) (by kernel_rfl) (fun _ _ _ h => h) (Or.inl ⟨by rfl, fun w hSw => by have c := Kept.cellOf hSw i1 (by simp); go_simp⟩) h0 ?_
  try simp only [List.getElem_toArray, List.getElem_cons_zero, List.getElem_cons_succ, Act.put, List.setIfInBounds_toArray, List.set_cons_zero, List.set_cons_succ]
  refine wpAnyL_free (i := 3) (v := .pointer (some ⟨w.heap.size, 3, none⟩)) rfl (by kernel_rfl) (by kernel_rfl) (by kernel_rfl) (fun _ _ _ h => h) (Or.inl ⟨by rfl, fun w _ => by go_simp⟩) ?_
  try simp only [List.getElem_toArray, List.getElem_cons_zero, List.getElem_cons_succ, Act.put, List.setIfInBounds_toArray, List.set_cons_zero, List.set_cons_succ]
  refine wpAnyL_take (i := 4) (v := .int .i64 at_) rfl (by kernel_rfl) (by kernel_rfl) (by kernel_rfl) (by kernel_rfl) (by kernel_rfl) (fun _ _ _ h => h) (Or.inl ⟨by rfl, fun w hSw => by have c := Kept.cellOf hSw i3 (by simp); go_simp⟩) h0 ?_
  try simp only [List.getElem_toArray, List.getElem_cons_zero, List.getElem_cons_succ, Act.put, List.setIfInBounds_toArray, List.set_cons_zero, List.set_cons_succ]
  refine wpAnyL_free (i := 6) (v := .pointer (some ⟨w.heap.size, 5, none⟩)) rfl (by kernel_rfl) (by kernel_rfl) (by kernel_rfl) (fun _ _ _ h => h) (Or.inl ⟨by rfl, fun w _ => by go_simp⟩) ?_
  try simp only [List.getElem_toArray, List.getElem_cons_zero, List.getElem_cons_succ, Act.put, List.setIfInBounds_toArray, List.set_cons_zero, List.set_cons_succ]
  refine wpAnyL_take (i := 7) (v := .slice da dn dc) rfl (by kernel_rfl) (by kernel_rfl) (by kernel_rfl) (by kernel_rfl) (by kernel_rfl) (fun _ _ _ h => h) (Or.inl ⟨by rfl, fun w hSw => by have c := Kept.cellOf hSw i5 (by simp); go_simp⟩) h0 ?_
  try simp only [List.getElem_toArray, List.getElem_cons_zero, List.getElem_cons_succ, Act.put, List.setIfInBounds_toArray, List.set_cons_zero, List.set_cons_succ]
  refine wpAnyL_one (i := 5) (by kernel_rfl) rfl (fun K hK => ?_)
  rw [if_pos (by rfl)]
  go_simp
  refine hK.out _ _ (fun _ _ => h0.alloc _) ?_
  clear hK K
  have h1 : Kept [] w1 (v0.alloc (.cells #[] 5)) := h0.alloc _
  try simp only [List.getElem_toArray, List.getElem_cons_zero, List.getElem_cons_succ, Act.put, List.setIfInBounds_toArray, List.set_cons_zero, List.set_cons_succ]
  obtain ⟨g, gc, w2, hap, hs2, hk2, hg2⟩ := HFR.out v0 h0
  refine wpAnyL_one (i := 8) (by kernel_rfl) rfl (fun K hK => ?_)
  rw [if_pos (by rfl)]
  refine wp_append_run _ _ 32 32 rfl _ _ rfl rfl _ _ hap ?_
  refine hK.out _ _ (fun _ _ => h0.trans hk2 (by simp)) ?_
  clear hK K hap
  try simp only [List.getElem_toArray, List.getElem_cons_zero, List.getElem_cons_succ, Act.put, List.setIfInBounds_toArray, List.set_cons_zero, List.set_cons_succ]
  have hc := HC.out v0 w2 g gc h0 hk2 hs2 hg2
  clear HC HFR h1 hs2 hk2 hg2
  refine wpAnyL_one (i := 9) (by kernel_rfl) rfl (fun K hK => ?_)
  rw [if_pos (by rfl)]
  go_simp
  refine hc.mono ?_
  rintro e w3 ⟨rfl, ha⟩
  go_simp
  have HA := hide ha
  clear ha hc
  refine hK.out _ _ (fun _ h => by cases h) ?_
  clear hK K
  try simp only [List.getElem_toArray, List.getElem_cons_zero, List.getElem_cons_succ, Act.put, List.setIfInBounds_toArray, List.set_cons_zero, List.set_cons_succ]
  refine wpAnyL_free (i := 10) (v := .int .i64 (S.writeAt name at_ ds).1) rfl (by kernel_rfl) (by kernel_rfl) (by kernel_rfl) (fun _ _ _ h => h) (Or.inl ⟨by rfl, fun w _ => by go_simp⟩) ?_
  try simp only [List.getElem_toArray, List.getElem_cons_zero, List.getElem_cons_succ, Act.put, List.setIfInBounds_toArray, List.set_cons_zero, List.set_cons_succ]
  refine wpAnyL_done (by kernel_rfl) ?_ _
  go_wp2
  go_ret
  exact ⟨rfl, HA.out.mono (by omega)⟩

set_option maxHeartbeats 1600000 in
set_option maxRecDepth 100000 in
theorem do_app {w0 w : World} {p : Nat} {S : Ds} {N : Nat} (h : At w0 w p S N) (name to : By) (at_ n : Int) (da : Option Addr) (dn dc : Nat) (ds : By) (po pf pt : Int) (pa : Option Addr) (pn pc : Nat) (ps : List Int) (hi : StpIn w ⟨3, name, to, at_, n, da, dn, dc, ds, po, pf, pt, pa, pn, pc, ps⟩) (hN : N + dn ≤ 268435456) (hpn : pn ≤ 1073741824) :
    Calls Try.prog 8 #[.pointer (some ⟨p, 0, none⟩), .agg #[.int .i64 3, encStr name, encStr to, .int .i64 at_, .int .i64 n, .slice da dn dc, .int .i64 po, .int .i64 pf, .int .i64 pt, .slice pa pn pc]] w fun e w' => e = .returned (.int .i64 (S.append name ds).1) ∧ At w0 w' p (S.append name ds).2 (N + dn + 3) := by
  have hnm : name.length ≤ 4611686018427387904 := hi.nm
  have htm : to.length ≤ 4611686018427387904 := hi.tm
  obtain ⟨w1, hw1⟩ : ∃ w1, w1 = w.alloc (.cells #[.int .i64 3, encStr name, encStr to, .int .i64 at_, .int .i64 n, .slice da dn dc, .int .i64 po, .int .i64 pf, .int .i64 pt, .slice pa pn pc] 37) := ⟨_, rfl⟩
  have hk1 : Kept [] w w1 := by rw [hw1]; exact (Kept.refl [] w).alloc _
  have h1 := h.kept hk1
  have hb1 : w1.heap[w.heap.size]? = some (.cells #[.int .i64 3, encStr name, encStr to, .int .i64 at_, .int .i64 n, .slice da dn dc, .int .i64 po, .int .i64 pf, .int .i64 pt, .slice pa pn pc] 37 (0, 0)) := by rw [hw1]; exact (MapKept.heap_alloc w _).1
  have i0 : w1.cell? ⟨w.heap.size, 0, none⟩ = some (.int .i64 3) := by rw [cell_of_row w1 _ 0 _ _ _ hb1]; rfl
  have i1 : w1.cell? ⟨w.heap.size, 1, none⟩ = some (encStr name) := by rw [cell_of_row w1 _ 1 _ _ _ hb1]; rfl
  have i2 : w1.cell? ⟨w.heap.size, 2, none⟩ = some (encStr to) := by rw [cell_of_row w1 _ 2 _ _ _ hb1]; rfl
  have i3 : w1.cell? ⟨w.heap.size, 3, none⟩ = some (.int .i64 at_) := by rw [cell_of_row w1 _ 3 _ _ _ hb1]; rfl
  have i4 : w1.cell? ⟨w.heap.size, 4, none⟩ = some (.int .i64 n) := by rw [cell_of_row w1 _ 4 _ _ _ hb1]; rfl
  have i5 : w1.cell? ⟨w.heap.size, 5, none⟩ = some (.slice da dn dc) := by rw [cell_of_row w1 _ 5 _ _ _ hb1]; rfl
  have i6 : w1.cell? ⟨w.heap.size, 6, none⟩ = some (.int .i64 po) := by rw [cell_of_row w1 _ 6 _ _ _ hb1]; rfl
  have i7 : w1.cell? ⟨w.heap.size, 7, none⟩ = some (.int .i64 pf) := by rw [cell_of_row w1 _ 7 _ _ _ hb1]; rfl
  have i8 : w1.cell? ⟨w.heap.size, 8, none⟩ = some (.int .i64 pt) := by rw [cell_of_row w1 _ 8 _ _ _ hb1]; rfl
  have i9 : w1.cell? ⟨w.heap.size, 9, none⟩ = some (.slice pa pn pc) := by rw [cell_of_row w1 _ 9 _ _ _ hb1]; rfl
  have hd5 := hi.inb
  have HFR : Hid (∀ v, Kept [] w1 v → ∃ g c' w', (Builtin.append_ #[32, 32] 32 #[.slice (some ⟨v.heap.size, 0, none⟩) 0 0, .slice da dn dc]).run Try.prog (v.alloc (.cells #[] 5)) = .ok (.slice (some ⟨g, 0, none⟩) dn c') w' ∧ Sl w' (some ⟨g, 0, none⟩) ds ∧ Kept [] v w' ∧ v.heap.size ≤ g) := fun v hv =>
    fresh_bytes v 32 da dn dc ds hd5.len (hd5.sl.keep (Keep.ofNone (F := fun _ => False) (hk1.trans hv (by simp))) (fun _ _ _ h => h)) (fun e => ⟨by have := (hd5.nil e).1; have h2 := hd5.len; rw [this] at h2; exact h2.symm, (hd5.nil e).2⟩) (by have := hd5.max; omega)
  have HC : Hid (∀ v w2 g c, Kept [] w1 v → Kept [] v w2 → Sl w2 (some ⟨g, 0, none⟩) ds → v.heap.size ≤ g → Calls Try.prog 24 #[.pointer (some ⟨p, 0, none⟩), encStr name, .slice (some ⟨g, 0, none⟩) dn c] w2 fun e w' => e = .returned (.int .i64 (S.append name ds).1) ∧ At w0 w' p (S.append name ds).2 (N + dn + 2)) := fun v w2 g c hv hk2 hs2 hg =>
    append_at (h1.kept hv) hk2 (by omega) name hnm hd5.len hs2 (by simp) (fun _ a ha => by injection ha with ha; subst ha; exact .inl hg)
  clear h h1 hb1 hk1 hi hd5
  go_enter Try.func8, Try.ntmps8
  go_upto_region 1 with (fail)
  rw [← hw1]
  clear hw1
  go_upto_region 7 with (fail)
  refine wp_region_late (fun w' => Kept [] w1 w') (fun i => i == 7) (by kernel_rfl) ?_
  have h0 : Kept [] w1 w1.drew := (Kept.refl [] w1).drew
  generalize World.drew w1 = v0 at h0 ⊢
  refine wpAnyL_free (i := 0) (v := .pointer (some ⟨p, 0, none⟩)) rfl (by kernel_rfl) (by kernel_rfl) (by kernel_rfl) (fun _ _ _ h => h) (Or.inl ⟨by rfl, fun w _ => by go_simp⟩) ?_
  try simp only [List.getElem_toArray, List.getElem_cons_zero, List.getElem_cons_succ, Act.put, List.setIfInBounds_toArray, List.set_cons_zero, List.set_cons_succ]
  refine wpAnyL_free (i := 1) (v := .pointer (some ⟨w.heap.size, 1, none⟩)) rfl (by kernel_rfl) (by kernel_rfl) (by kernel_rfl) (fun _ _ _ h => h) (Or.inl ⟨by rfl, fun w _ => by go_simp⟩) ?_
  try simp only [List.getElem_toArray, List.getElem_cons_zero, List.getElem_cons_succ, Act.put, List.setIfInBounds_toArray, List.set_cons_zero, List.set_cons_succ]
  refine wpAnyL_take (i := 2) (v := encStr name) rfl (by kernel_rfl) (by kernel_rfl) (by kernel_rfl) (by kernel_rfl) (by kernel_rfl) (fun _ _ _ h => h) (Or.inl ⟨by rfl, fun w hSw => by have c := Kept.cellOf hSw i1 (by simp); go_simp⟩) h0 ?_
  try simp only [List.getElem_toArray, List.getElem_cons_zero, List.getElem_cons_succ, Act.put, List.setIfInBounds_toArray, List.set_cons_zero, List.set_cons_succ]
  refine wpAnyL_free (i := 4) (v := .pointer (some ⟨w.heap.size, 5, none⟩)) rfl (by kernel_rfl) (by kernel_rfl) (by kernel_rfl) (fun _ _ _ h => h) (Or.inl ⟨by rfl, fun w _ => by go_simp⟩) ?_
  try simp only [List.getElem_toArray, List.getElem_cons_zero, List.getElem_cons_succ, Act.put, List.setIfInBounds_toArray, List.set_cons_zero, List.set_cons_succ]
  refine wpAnyL_take (i := 5) (v := .slice da dn dc) rfl (by kernel_rfl) (by kernel_rfl) (by kernel_rfl) (by kernel_rfl) (by kernel_rfl) (fun _ _ _ h => h) (Or.inl ⟨by rfl, fun w hSw => by have c := Kept.cellOf hSw i5 (by simp); go_simp⟩) h0 ?_
  try simp only [List.getElem_toArray, List.getElem_cons_zero, List.getElem_cons_succ, Act.put, List.setIfInBounds_toArray, List.set_cons_zero, List.set_cons_succ]
  refine wpAnyL_one (i := 3) (by kernel_rfl) rfl (fun K hK => ?_)
  rw [if_pos (by rfl)]
  go_simp
  refine hK.out _ _ (fun _ _ => h0.alloc _) ?_
  clear hK K
  have h1 : Kept [] w1 (v0.alloc (.cells #[] 5)) := h0.alloc _
  try simp only [List.getElem_toArray, List.getElem_cons_zero, List.getElem_cons_succ, Act.put, List.setIfInBounds_toArray, List.set_cons_zero, List.set_cons_succ]
  obtain ⟨g, gc, w2, hap, hs2, hk2, hg2⟩ := HFR.out v0 h0
  refine wpAnyL_one (i := 6) (by kernel_rfl) rfl (fun K hK => ?_)
  rw [if_pos (by rfl)]
  refine wp_append_run _ _ 32 32 rfl _ _ rfl rfl _ _ hap ?_
  refine hK.out _ _ (fun _ _ => h0.trans hk2 (by simp)) ?_
  clear hK K hap
  try simp only [List.getElem_toArray, List.getElem_cons_zero, List.getElem_cons_succ, Act.put, List.setIfInBounds_toArray, List.set_cons_zero, List.set_cons_succ]
  have hc := HC.out v0 w2 g gc h0 hk2 hs2 hg2
  clear HC HFR h1 hs2 hk2 hg2
  refine wpAnyL_one (i := 7) (by kernel_rfl) rfl (fun K hK => ?_)
  rw [if_pos (by rfl)]
  go_simp
  refine hc.mono ?_
  rintro e w3 ⟨rfl, ha⟩
  go_simp
  have HA := hide ha
  clear ha hc
  refine hK.out _ _ (fun _ h => by cases h) ?_
  clear hK K
  try simp only [List.getElem_toArray, List.getElem_cons_zero, List.getElem_cons_succ, Act.put, List.setIfInBounds_toArray, List.set_cons_zero, List.set_cons_succ]
  refine wpAnyL_free (i := 8) (v := .int .i64 (S.append name ds).1) rfl (by kernel_rfl) (by kernel_rfl) (by kernel_rfl) (fun _ _ _ h => h) (Or.inl ⟨by rfl, fun w _ => by go_simp⟩) ?_
  try simp only [List.getElem_toArray, List.getElem_cons_zero, List.getElem_cons_succ, Act.put, List.setIfInBounds_toArray, List.set_cons_zero, List.set_cons_succ]
  refine wpAnyL_done (by kernel_rfl) ?_ _
  go_wp2
  go_ret
  exact ⟨rfl, HA.out.mono (by omega)⟩

/-- A step, as mathematics. -/
def stepD (S : Ds) (s : Stp) : Int × Ds :=
  if s.kind = 1 then S.create s.name else
  if s.kind = 2 then S.writeAt s.name s.at_ s.ds else
  if s.kind = 3 then S.append s.name s.ds else
  if s.kind = 4 then S.truncate s.name s.n else
  if s.kind = 5 then S.rename s.name s.to else
  if s.kind = 6 then S.remove s.name else
  if s.kind = 7 then S.sync s.name else
  if s.kind = 8 then S.syncNames else
  if s.kind = 9 then (S.readOk s.name s.at_ s.n, S.read s.name s.at_ s.n) else
  if s.kind = 10 then ((S.find s.name).1, S) else
  if s.kind = 11 then (0, S.setPlan s.po s.pf s.pt) else
  if s.kind = 12 then (0, S.crash s.ps) else
  if s.kind = 13 then (0, S.look) else
  (0, S)
theorem do_ok {w0 w : World} {p : Nat} {S : Ds} {N : Nat} (h : At w0 w p S N) (s : Stp) (hi : StpIn w s) (hN : N + s.dn ≤ 268435456) (hpn : s.pn ≤ 1073741824) :
    Calls Try.prog 8 #[.pointer (some ⟨p, 0, none⟩), .agg s.cells.toArray] w fun e w' => e = .returned (.int .i64 (stepD S s).1) ∧ At w0 w' p (stepD S s).2 (N + s.dn + 3) := by
  obtain ⟨kind, name, to, at_, n, da, dn, dc, ds, po, pf, pt, pa, pn, pc, ps⟩ := s
  by_cases k1 : kind = 1
  · subst k1
    have e : stepD S ⟨1, name, to, at_, n, da, dn, dc, ds, po, pf, pt, pa, pn, pc, ps⟩ = S.create name := by simp [stepD]
    rw [e]
    exact do_create h name to at_ n da dn dc ds po pf pt pa pn pc ps hi hN hpn
  by_cases k2 : kind = 2
  · subst k2
    have e : stepD S ⟨2, name, to, at_, n, da, dn, dc, ds, po, pf, pt, pa, pn, pc, ps⟩ = S.writeAt name at_ ds := by simp [stepD]
    rw [e]
    exact do_write h name to at_ n da dn dc ds po pf pt pa pn pc ps hi hN hpn
  by_cases k3 : kind = 3
  · subst k3
    have e : stepD S ⟨3, name, to, at_, n, da, dn, dc, ds, po, pf, pt, pa, pn, pc, ps⟩ = S.append name ds := by simp [stepD]
    rw [e]
    exact do_app h name to at_ n da dn dc ds po pf pt pa pn pc ps hi hN hpn
  by_cases k4 : kind = 4
  · subst k4
    have e : stepD S ⟨4, name, to, at_, n, da, dn, dc, ds, po, pf, pt, pa, pn, pc, ps⟩ = S.truncate name n := by simp [stepD]
    rw [e]
    exact do_truncate h name to at_ n da dn dc ds po pf pt pa pn pc ps hi hN hpn
  by_cases k5 : kind = 5
  · subst k5
    have e : stepD S ⟨5, name, to, at_, n, da, dn, dc, ds, po, pf, pt, pa, pn, pc, ps⟩ = S.rename name to := by simp [stepD]
    rw [e]
    exact do_rename h name to at_ n da dn dc ds po pf pt pa pn pc ps hi hN hpn
  by_cases k6 : kind = 6
  · subst k6
    have e : stepD S ⟨6, name, to, at_, n, da, dn, dc, ds, po, pf, pt, pa, pn, pc, ps⟩ = S.remove name := by simp [stepD]
    rw [e]
    exact do_remove h name to at_ n da dn dc ds po pf pt pa pn pc ps hi hN hpn
  by_cases k7 : kind = 7
  · subst k7
    have e : stepD S ⟨7, name, to, at_, n, da, dn, dc, ds, po, pf, pt, pa, pn, pc, ps⟩ = S.sync name := by simp [stepD]
    rw [e]
    exact do_sync h name to at_ n da dn dc ds po pf pt pa pn pc ps hi hN hpn
  by_cases k8 : kind = 8
  · subst k8
    have e : stepD S ⟨8, name, to, at_, n, da, dn, dc, ds, po, pf, pt, pa, pn, pc, ps⟩ = S.syncNames := by simp [stepD]
    rw [e]
    exact do_names h name to at_ n da dn dc ds po pf pt pa pn pc ps hi hN hpn
  by_cases k9 : kind = 9
  · subst k9
    have e : stepD S ⟨9, name, to, at_, n, da, dn, dc, ds, po, pf, pt, pa, pn, pc, ps⟩ = (S.readOk name at_ n, S.read name at_ n) := by simp [stepD]
    rw [e]
    exact do_read h name to at_ n da dn dc ds po pf pt pa pn pc ps hi hN hpn
  by_cases k10 : kind = 10
  · subst k10
    have e : stepD S ⟨10, name, to, at_, n, da, dn, dc, ds, po, pf, pt, pa, pn, pc, ps⟩ = ((S.find name).1, S) := by simp [stepD]
    rw [e]
    exact do_size h name to at_ n da dn dc ds po pf pt pa pn pc ps hi hN hpn
  by_cases k11 : kind = 11
  · subst k11
    have e : stepD S ⟨11, name, to, at_, n, da, dn, dc, ds, po, pf, pt, pa, pn, pc, ps⟩ = (0, S.setPlan po pf pt) := by simp [stepD]
    rw [e]
    exact do_plan h name to at_ n da dn dc ds po pf pt pa pn pc ps hi hN hpn
  by_cases k12 : kind = 12
  · subst k12
    have e : stepD S ⟨12, name, to, at_, n, da, dn, dc, ds, po, pf, pt, pa, pn, pc, ps⟩ = (0, S.crash ps) := by simp [stepD]
    rw [e]
    exact do_crash h name to at_ n da dn dc ds po pf pt pa pn pc ps hi hN hpn
  by_cases k13 : kind = 13
  · subst k13
    have e : stepD S ⟨13, name, to, at_, n, da, dn, dc, ds, po, pf, pt, pa, pn, pc, ps⟩ = (0, S.look) := by simp [stepD]
    rw [e]
    exact do_look h name to at_ n da dn dc ds po pf pt pa pn pc ps hi hN hpn
  have e : stepD S ⟨kind, name, to, at_, n, da, dn, dc, ds, po, pf, pt, pa, pn, pc, ps⟩ = (0, S) := by simp [stepD, k1, k2, k3, k4, k5, k6, k7, k8, k9, k10, k11, k12, k13]
  rw [e]
  exact do_none kind (by omega) h name to at_ n da dn dc ds po pf pt pa pn pc ps hi hN hpn
end Go.Proofs.Ytllfkfncgalpaaa
