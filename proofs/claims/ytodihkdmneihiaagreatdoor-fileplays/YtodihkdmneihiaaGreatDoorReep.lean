import Derived.Test.YtodihkdmneihiaaGreatDoorGnp
import Derived.Test.YtodihkdmneihiaaGreatDoorHop
import Derived.StillTailTactics
import Derived.Test.YtodihkdmneihiaaGreatDoorKap
import Derived.Laws.AppendOwnNone
namespace Go.Proofs.YtodihkdmneihiaaGreatDoor
section
open Go.RowKit Dsk
set_option linter.unusedVariables false
set_option linter.unusedSimpArgs false
theorem fresh_own (v : World) (ty : TypeId) (ao : Option Addr) (n c : Nat) (d : By) (hl : d.length = n) (hs : Sl v ao d) (h0 : ao = none → n = 0 ∧ c = 0) (hb : n ≤ 140737488355328) :
  ∃ g c' w', (Builtin.append_ #[28, 28] ty #[.slice (some ⟨v.heap.size, 0, none⟩) 0 0, .slice ao n c]).run Tryz.prog (v.alloc (.cells #[] 5)) = .ok (.slice (some ⟨g, 0, none⟩) n c') w' ∧ w'.ownsRow 0 5 1 (.slice (some ⟨g, 0, none⟩) n c') n (bys d) ∧ Kept [] v w' ∧ v.heap.size ≤ g := by
 obtain ⟨g, c', w', h1, h2, h3, h4⟩ := run_fresh v 28 ty 5 Tryz.underlying28 Tryz.infoByte rfl ao n c (bys d) (by rw [bys_length]; exact hl) (fun j u hu => by
  obtain ⟨hj, rfl⟩ := bys_get hu
  exact hs j hj) h0 (bys_oneCell d) (by unfold maxLen; omega) (by omega)
 exact ⟨g, c', w', h1, h2, h3, h4⟩
set_option maxHeartbeats 1600000 in
set_option maxRecDepth 100000 in
theorem copied_ok (ao : Option Addr) (n c : Nat) (d : By) (w : World) (hl : d.length = n) (hs : Sl w ao d) (h0 : ao = none → n = 0 ∧ c = 0) (hb : n ≤ 140737488355328) :
  Calls Tryz.prog 82 #[.slice ao n c] w fun e w' => ∃ g c', e = .returned (.slice (some ⟨g, 0, none⟩) n c') ∧ w'.ownsRow 0 5 1 (.slice (some ⟨g, 0, none⟩) n c') n (bys d) ∧ Kept [] w w' ∧ w.heap.size ≤ g := by
 obtain ⟨g, c', w', hap, h1, h2, h3⟩ := fresh_own w 28 ao n c d hl hs h0 hb
 have HE := hide (And.intro h1 (And.intro h2 h3))
 clear hl hs h1 h2 h3 h0
 go_enter Tryz.func82, Tryz.ntmps82
 go_wp2_with (at_builtin; refine wpList_app_run rfl _ _ 28 28 rfl _ _ rfl rfl _ _ hap ?_)
 go_ret
 exact ⟨g, c', rfl, HE.out.1, HE.out.2.1, HE.out.2.2⟩
theorem copiedB_ok (v : Value) (n : Nat) (d : By) (w : World) (h : OwnB w v n d) (hb : n ≤ 140737488355328) :
  Calls Tryz.prog 82 #[v] w fun e w' => ∃ g c', e = .returned (.slice (some ⟨g, 0, none⟩) n c') ∧ w'.ownsRow 0 5 1 (.slice (some ⟨g, 0, none⟩) n c') n (bys d) ∧ Kept [] w w' ∧ w.heap.size ≤ g := by
 obtain ⟨bo, bc, rfl, h1, h2, h3, h4⟩ := h.shape
 exact copied_ok bo n bc d w h.1 h.sl h3 hb
theorem Tryz.infoName : (Tryz.prog.info? 139).map (fun i => (i.zero, i.size, i.bytes)) = some (some (.agg #[.string ⟨#[]⟩, .pointer none]), 2, 24) := by kernel_rfl
structure Bl (w wr : World) (A : Nat → Nat) (v : Value) (l : Nm) : Prop where
 row : wr.ownsRow 0 139 2 v l.length (nmsV A l)
 new : ∀ g, v.ownBlock = some g → w.heap.size ≤ g
 keep : Kept [] w wr
theorem Bl.start {w w1 : World} {A : Nat → Nat} (hk : Kept [] w w1) : Bl w w1 A (.slice none 0 0) [] := ⟨World.ownsRow_nil _ _ _ _, by simp [Value.ownBlock], hk⟩
theorem Bl.app {w wr : World} {A : Nat → Nat} {fo : Option Addr} {m fc : Nat} {l : Nm} (h : Bl w wr A (.slice fo m fc) l) (hm : l.length = m) (hb : m ≤ 1073741824) (n : By) (k : Nat) (b : Nat) (hbk : A k = b) :
  ∃ g c w5, (Builtin.append_ #[76, 76] 76 #[.slice fo m fc, .slice (some ⟨wr.heap.size, 0, none⟩) 1 1]).run Tryz.prog (wr.alloc (.cells #[encStr n, .pointer (some ⟨b, 0, none⟩)] 139)) = .ok (.slice (some ⟨g, 0, none⟩) (m + 1) c) w5 ∧ Bl w w5 A (.slice (some ⟨g, 0, none⟩) (m + 1) c) (l ++ [(n, k)]) := by
 have hr := h.row
 rw [hm] at hr
 obtain ⟨g, c, w', e1, e2, e3, e4, _⟩ := run_app (P := Tryz.prog) wr 76 76 139 Tryz.underlying76 Tryz.infoName rfl (by decide) _ m _ hr [encStr n, .pointer (some ⟨b, 0, none⟩)] rfl (fun z hz => by simp only [List.mem_cons, List.not_mem_nil, or_false] at hz; rcases hz with rfl | rfl <;> rfl) (by unfold maxLen; omega) (by omega)
 have hK := e3 (fun k => (Value.slice fo m fc).ownBlock = some k) (fun _ e => e)
 refine ⟨g, c, w', e1, ⟨?_, ?_, ?_⟩⟩
 ·rw [nmsV_snoc, List.length_append, hm]
  have : nmV A (n, k) = [encStr n, .pointer (some ⟨b, 0, none⟩)] := by unfold nmV; rw [hbk]
  rw [this]
  exact e2
 ·intro g' hg'
  simp only [Value.ownBlock, Option.some.injEq] at hg'
  subst hg'
  rcases e4 with e | e
  ·exact h.new g e.symm
  ·exact Nat.le_trans h.keep.size e
 ·exact ⟨hK.os.trans h.keep.os, hK.tape.trans h.keep.tape, hK.output.trans h.keep.output, Nat.le_trans h.keep.size hK.size, fun i hi _ => (hK.block i (Nat.lt_of_lt_of_le hi h.keep.size) (fun e => by have := h.new i e; omega)).trans (h.keep.block i hi (by simp))⟩
set_option maxHeartbeats 1600000 in
set_option maxRecDepth 100000 in
theorem without_ok (vo : Option Addr) (m vc : Nat) (A : Nat → Nat) (l : Nm) (n : By) (w : World) (hl : l.length = m) (hm : m ≤ 1073741824) (h : w.ownsRow 0 139 2 (.slice vo m vc) m (nmsV A l)) :
  Calls Tryz.prog 108 #[.slice vo m vc, encStr n] w fun e w' => ∃ v, e = .returned v ∧ Bl w w' A v (l.del n) := by
 have HL := hide hl
 have HO : Hid (w.ownsRow 0 139 2 (.slice vo m vc) l.length (nmsV A l)) := hide (by rw [hl]; exact h)
 have HS := hide (Bl.start (A := A) (Kept.refl [] w))
 clear hl h
 go_enter Tryz.func108, Tryz.ntmps108
 go_wp2
 go_loopw [5, 6] (fun f i wr => ∃ k x : Nat, k ≤ m ∧ x ≤ k ∧ i = .int .i64 k ∧ Hid (Bl w wr A f (Nm.del (l.take k) n) ∧ (Nm.del (l.take k) n).length = x) ∧ ∃ fo fc, f = .slice fo x fc) (fun f i wr => m - (intOf i).toNat)
 case atStart => exact ⟨0, 0, by omega, by omega, rfl, hide ⟨by simpa [Nm.del] using HS.out, by simp [Nm.del]⟩, none, 0, rfl⟩
 case round =>
  clear HS
  obtain ⟨k, x, hk, hx, rfl, HR, fo, fc, rfl⟩ := hrel
  obtain ⟨hR, hlen⟩ := HR.out
  clear HR
  by_cases hlt : k < m
  ·obtain ⟨⟨nm, id⟩, hp⟩ : ∃ q, l[k]? = some q := ⟨l[k]'(by rw [HL.out]; exact hlt), List.getElem?_eq_getElem _⟩
   have hO := own_keeps HO.out (Keep.ofNone (F := fun _ => False) hR.keep) (fun _ _ h => h)
   obtain ⟨g, rfl, hc, hc1⟩ := nms_cell hO hp
   have hst := del_take_snoc l n k (nm, id) hp
   by_cases e : nm = n
   ·rw [if_pos e, List.append_nil] at hst
    have H5 : Hid (Bl w wr A (.slice fo x fc) (Nm.del (l.take (k + 1)) n) ∧ (Nm.del (l.take (k + 1)) n).length = x) := hide (by rw [hst]; exact ⟨hR, hlen⟩)
    have he : (nm == n) = true := by simpa using e
    clear hp hO hst hR hlen e
    go_wp2
    go_roundw
    case rel => exact ⟨k + 1, x, by omega, by omega, by go_num, H5, _, _, rfl⟩
    case measure => simp [intOf]; omega
   ·rw [if_neg e] at hst
    obtain ⟨ga, gc, w5, hap, hb5⟩ := hR.app hlen (by omega) nm id (A id) rfl
    have H5 : Hid (Bl w w5 A (.slice (some ⟨ga, 0, none⟩) (x + 1) gc) (Nm.del (l.take (k + 1)) n) ∧ (Nm.del (l.take (k + 1)) n).length = x + 1) := hide (by rw [hst]; exact ⟨hb5, by simp [hlen]⟩)
    have he : (nm == n) = false := by simpa using e
    clear hp hO hst hR hlen e hb5
    go_wp2_with (at_builtin; refine wpList_app_run rfl _ _ 76 76 rfl _ _ rfl rfl _ _ hap ?_)
    go_roundw
    case rel => exact ⟨k + 1, x + 1, by omega, by omega, by go_num, H5, _, _, rfl⟩
    case measure => simp [intOf]; omega
  ·have HE : Hid (Bl w wr A (.slice fo x fc) (l.del n)) := hide (by
    have := hR
    rw [List.take_of_length_le (by have := HL.out; omega)] at this
    exact this)
   clear hR hlen
   go_wp2
   go_ret
   exact ⟨_, rfl, HE.out⟩
theorem Bl.shape {w wr : World} {A : Nat → Nat} {v : Value} {l : Nm} (h : Bl w wr A v l) : ∃ vo vc, v = .slice vo l.length vc := by
 obtain ⟨a, b, e, _⟩ := own_shape h.row
 exact ⟨a, b, e⟩
end

section
open Go.RowKit Dsk
set_option linter.unusedVariables false
set_option linter.unusedSimpArgs false
structure Cg (w wr : World) (v : Value) (xs : By) : Prop where
 row : wr.ownsRow 0 5 1 v xs.length (bys xs)
 new : ∀ g, v.ownBlock = some g → w.heap.size ≤ g
 keep : Kept [] w wr
theorem Cg.trans {w w1 wr : World} {v : Value} {xs : By} (h : Cg w1 wr v xs) (hk : Kept [] w w1) : Cg w wr v xs :=
 ⟨h.row, fun g hg => Nat.le_trans hk.size (h.new g hg), hk.trans h.keep (by simp)⟩
theorem Cg.drew {w wr : World} {v : Value} {xs : By} (h : Cg w wr v xs) : Cg w wr.drew v xs := ⟨h.row, h.new, h.keep.drew⟩
theorem Cg.set {w wr : World} {g n c : Nat} {xs : By} (h : Cg w wr (.slice (some ⟨g, 0, none⟩) n c) xs) (hn : xs.length = n) (i : Nat) (y : UInt8) : Cg w (wr.setCell ⟨g, i, none⟩ (.int .u8 y.toNat)) (.slice (some ⟨g, 0, none⟩) n c) (xs.set i y) := by
 have hr := h.row
 rw [hn] at hr
 have h1 := hr.stored i (.int .u8 y.toNat)
 rw [bys_set] at h1
 have hg : w.heap.size ≤ g := h.new g rfl
 refine ⟨by rw [List.length_set, hn]; exact h1.1, h.new, ?_⟩
 exact h.keep.setCell (p := ⟨g, i, none⟩) (fun hlt => by simp at hlt; omega) _
theorem Cg.app {w wr : World} {fo : Option Addr} {m fc : Nat} {xs : By} (h : Cg w wr (.slice fo m fc) xs) (hm : xs.length = m) (hb : m ≤ 1073741824) (y : UInt8) :
  ∃ g c w5, (Builtin.append_ #[28, 28] 28 #[.slice fo m fc, .slice (some ⟨wr.heap.size, 0, none⟩) 1 1]).run Tryz.prog (wr.alloc (.cells #[.int .u8 y.toNat] 5)) = .ok (.slice (some ⟨g, 0, none⟩) (m + 1) c) w5 ∧ Cg w w5 (.slice (some ⟨g, 0, none⟩) (m + 1) c) (xs ++ [y]) := by
 have hr := h.row
 rw [hm] at hr
 obtain ⟨g, c, w', e1, e2, e3, e4, _⟩ := run_app (P := Tryz.prog) wr 28 28 5 Tryz.underlying28 Tryz.infoByte rfl (by decide) _ m _ hr [.int .u8 y.toNat] rfl (fun z hz => by simp only [List.mem_singleton] at hz; rw [hz]; rfl) (by unfold maxLen; omega) (by omega)
 have hK := e3 (fun k => (Value.slice fo m fc).ownBlock = some k) (fun _ e => e)
 refine ⟨g, c, w', e1, ⟨?_, ?_, ?_⟩⟩
 ·rw [bys_append, List.length_append, hm]
  exact e2
 ·intro g' hg'
  simp only [Value.ownBlock, Option.some.injEq] at hg'
  subst hg'
  rcases e4 with e | e
  ·exact h.new g e.symm
  ·exact Nat.le_trans h.keep.size e
 ·exact ⟨hK.os.trans h.keep.os, hK.tape.trans h.keep.tape, hK.output.trans h.keep.output, Nat.le_trans h.keep.size hK.size, fun i hi _ => (hK.block i (Nat.lt_of_lt_of_le hi h.keep.size) (fun e => by have := h.new i e; omega)).trans (h.keep.block i hi (by simp))⟩
set_option maxHeartbeats 1600000 in
set_option maxRecDepth 100000 in
theorem changeCut_ok (bo : Option Addr) (n bc a u : Nat) (xs : By) (w : World) (h : OwnB w (.slice bo n bc) n xs) (ha : a ≤ n) (hu : 1 ≤ u) (hun : u ≤ 1073741824) (hn : n ≤ 1073741824) (dv : Value) :
  Calls Tryz.prog 79 #[.slice bo n bc, .agg #[.bool true, .int .i64 a, dv], .int .i64 u] w fun e w' => ∃ v, e = .returned v ∧ Cg w w' v ((Ch.cut a).apply xs u) := by
 obtain ⟨w1, hw1⟩ : ∃ w1, w1 = w.alloc (.cells #[.bool true, .int .i64 a, dv] 144) := ⟨_, rfl⟩
 have hk : Kept [] w w1 := by rw [hw1]; exact (Kept.refl [] w).alloc _
 have hb1 : w1.heap[w.heap.size]? = some (.cells #[.bool true, .int .i64 a, dv] 144 (0, 0)) := by rw [hw1]; exact (MapKept.heap_alloc w _).1
 have b0 : w1.cell? ⟨w.heap.size, 0, none⟩ = some (.bool true) := by rw [cell_of_row w1 _ 0 _ _ _ hb1]; rfl
 have b1 : w1.cell? ⟨w.heap.size, 1, none⟩ = some (.int .i64 a) := by rw [cell_of_row w1 _ 1 _ _ _ hb1]; rfl
 have hcut := own_cut (h.kept hk) a ha
 obtain ⟨bo', bc', e', h1, h2, h3, h4⟩ := hcut.shape
 injection e' with e1 e2 e3
 subst e1 e3
 have hcp := copied_ok bo a bc (xs.take a) w1 hcut.1 hcut.sl h3 (by omega)
 have hsl := fun W => Tryz.cutTo W bo n bc a h1
 have HL : Hid ((xs.take a).length = a) := hide hcut.1
 have HK := hide hk
 obtain ⟨x, hx⟩ : ∃ x, x = w.heap.size := ⟨_, rfl⟩
 rw [← hx] at b0 b1
 clear h hcut h3 h4 hk hb1
 go_enter Tryz.func79, Tryz.ntmps79
 go_upto_region 1 with (fail)
 rw [← hw1, ← hx]
 clear hw1 hx
 go_wp2_with (go_at_call 82; refine hcp.mono ?_; rintro e w2 ⟨g, c', rfl, hr, hk2, hg⟩; have HE := hide (And.intro hr (And.intro hk2 hg)); clear hcp hr hk2 hg)
 go_ret
 refine ⟨_, rfl, ?_⟩
 obtain ⟨hr, hk2, hg⟩ := HE.out
 refine Cg.trans (w1 := w1) ⟨?_, fun g' e => ?_, hk2⟩ HK.out
 ·show World.ownsRow _ _ _ _ _ (xs.take a).length (bys (xs.take a))
  rw [HL.out]
  exact hr
 ·simp only [Value.ownBlock] at e
  injection e with e
  rw [← e]; exact hg
set_option maxHeartbeats 3200000 in
set_option maxRecDepth 100000 in
theorem changeWr_ok (bo : Option Addr) (n bc a u : Nat) (xs d : By) (dO : Option Addr) (m dc : Nat) (w : World) (h : OwnB w (.slice bo n bc) n xs) (ha : a ≤ n) (hdl : d.length = m) (hd : Sl w dO d) (hu : u ≤ m) (hn : n + m ≤ 1073741824) :
  Calls Tryz.prog 79 #[.slice bo n bc, .agg #[.bool false, .int .i64 a, .slice dO m dc], .int .i64 u] w fun e w' => ∃ v, e = .returned v ∧ Cg w w' v ((Ch.wr a d).apply xs u) := by
 rw [← wrUp_end (by rw [hdl]; exact hu)]
 obtain ⟨w1, hw1⟩ : ∃ w1, w1 = w.alloc (.cells #[.bool false, .int .i64 a, .slice dO m dc] 144) := ⟨_, rfl⟩
 have hk : Kept [] w w1 := by rw [hw1]; exact (Kept.refl [] w).alloc _
 have hb1 : w1.heap[w.heap.size]? = some (.cells #[.bool false, .int .i64 a, .slice dO m dc] 144 (0, 0)) := by rw [hw1]; exact (MapKept.heap_alloc w _).1
 have b0 : w1.cell? ⟨w.heap.size, 0, none⟩ = some (.bool false) := by rw [cell_of_row w1 _ 0 _ _ _ hb1]; rfl
 have b1 : w1.cell? ⟨w.heap.size, 1, none⟩ = some (.int .i64 a) := by rw [cell_of_row w1 _ 1 _ _ _ hb1]; rfl
 have b2 : w1.cell? ⟨w.heap.size, 2, none⟩ = some (.slice dO m dc) := by rw [cell_of_row w1 _ 2 _ _ _ hb1]; rfl
 have hB := h.kept hk
 have hcp := copiedB_ok (.slice bo n bc) n xs w1 hB (by omega)
 have HD : Hid (Sl w1 dO d) := hide (hd.kept hk (by simp))
 have HDL := hide hdl
 have HX : Hid (xs.length = n) := hide h.1
 have HK := hide hk
 obtain ⟨x, hx⟩ : ∃ x, x = w.heap.size := ⟨_, rfl⟩
 rw [← hx] at b0 b1 b2
 clear h hB hk hb1 hd hdl
 go_enter Tryz.func79, Tryz.ntmps79
 go_upto_region 1 with (fail)
 rw [← hw1, ← hx]
 clear hw1 hx
 have hum : ¬ m < u := by omega
 go_wp2_with (go_at_call 82; refine hcp.mono ?_; rintro e w2 ⟨g, c', rfl, hr, hk2, hg⟩; have HE := hide (And.intro hr (And.intro hk2 hg)); clear hcp hr hk2 hg)
 have HS : Hid (Cg w1 w2 (.slice (some ⟨g, 0, none⟩) n c') (wrUp a d xs 0)) := hide (by
  rw [wrUp_zero]
  obtain ⟨hr, hk2, hg⟩ := HE.out
  exact ⟨by rw [HX.out]; exact hr, fun g' e => by simp only [Value.ownBlock] at e; injection e with e; rw [← e]; exact hg, hk2⟩)
 clear HE
 have HB0 := hide b0
 have HB1 := hide b1
 have HB2 := hide b2
 clear b0 b1 b2
 go_loopw [0, 7] (fun f i wr => ∃ k y : Nat, k ≤ u ∧ i = .int .i64 k ∧ y ≤ n + m ∧ n ≤ y ∧ (a + k ≤ n → y = n) ∧ (n ≤ a + k → y = a + k) ∧ Hid (Cg w1 wr f (wrUp a d xs k) ∧ (wrUp a d xs k).length = y) ∧ ∃ gg fc, f = .slice (some ⟨gg, 0, none⟩) y fc) (fun f i wr => u - (intOf i).toNat)
 case atStart => exact ⟨0, n, by omega, rfl, by omega, by omega, fun _ => rfl, fun h => by omega, hide ⟨HS.out, by rw [wrUp_zero, HX.out]⟩, _, _, rfl⟩
 case round =>
  clear HS
  obtain ⟨k, y, hk, rfl, hy1, hy2, hy3, hy4, HR, gg, fc, rfl⟩ := hrel
  obtain ⟨hR, hlen⟩ := HR.out
  clear HR
  have b1 := hR.keep.cellOf HB1.out (by simp)
  have b2 := hR.keep.cellOf HB2.out (by simp)
  by_cases hlt : k < u
  ·obtain ⟨db, off, rfl, hdb⟩ := HD.out k (by rw [HDL.out]; omega)
   have hcd := hR.keep.cellOf hdb (by simp)
   by_cases hin : a + k < n
   ·obtain rfl : y = n := hy3 (by omega)
    have hst := wrUp_set (a := a) (d := d) (b := xs) (i := k) (by rw [HDL.out]; omega) (by rw [HX.out]; exact hin)
    have hR2 := (hR.drew).set hlen (a + k) (d.getD k 0)
    rw [hst] at hR2
    have hcg : ∃ q, wr.cell? ⟨gg, a + k, none⟩ = some q := by
     have hr := hR.row
     rw [hlen] at hr
     rw [hr.cellAt (a + k) (by omega)]
     exact ⟨_, List.getElem?_eq_getElem (by rw [bys_length, hlen]; omega)⟩
    obtain ⟨q, hcg⟩ := hcg
    have hfz : wr.frozen? ⟨gg, a + k, none⟩ = false := by
     have hr := hR.row
     rw [hlen] at hr
     exact hr.frozenAt _
    generalize d.getD k 0 = z at hcd hR2
    have hkm : k < m := by omega
    obtain ⟨s, hs⟩ : ∃ s, a + k = s := ⟨_, rfl⟩
    have s0 : IntKind.i64.wrap ((a : Int) + (k : Int)) = (s : Int) := by rw [IntKind.wrap_i64]; omega
    rw [hs] at hcg hfz hR2
    have hsy : s < y := by omega
    have HSA := hide hs
    have H5 : Hid (Cg w1 (wr.drew.setCell ⟨gg, s, none⟩ (.int .u8 z.toNat)) (.slice (some ⟨gg, 0, none⟩) y fc) (wrUp a d xs (k + 1)) ∧ (wrUp a d xs (k + 1)).length = y) := hide ⟨hR2, by rw [wrUp_len (by rw [HX.out]; exact ha) (by rw [HDL.out]; omega), HX.out]; omega⟩
    clear hR hlen hst hR2 hdb hy3 hy4 hs
    go_wp2
    go_still_tail 11, Tryz.follows
    rw [World.drew_eq]
    go_wp2
    go_roundw
    case rel => exact ⟨k + 1, y, by omega, by go_num, by omega, by omega, fun _ => rfl, fun h => by have := HSA.out; omega, H5, _, _, rfl⟩
    case measure => simp [intOf]; omega
   ·obtain rfl : y = a + k := hy4 (by omega)
    obtain ⟨ga, gc, w5, hap, hb5⟩ := hR.app hlen (by omega) (d.getD k 0)
    rw [wrUp_app (by rw [HDL.out]; omega) (by rw [HX.out]; exact ha) (by rw [HX.out]; omega)] at hb5
    have H5 : Hid (Cg w1 w5 (.slice (some ⟨ga, 0, none⟩) (a + k + 1) gc) (wrUp a d xs (k + 1)) ∧ (wrUp a d xs (k + 1)).length = a + k + 1) := hide ⟨hb5, by rw [wrUp_len (by rw [HX.out]; exact ha) (by rw [HDL.out]; omega), HX.out]; omega⟩
    generalize d.getD k 0 = z at hcd hap
    clear hR hlen hb5 hdb hy3 hy4
    go_wp2_with (at_builtin; refine wpList_app_run rfl _ _ 28 28 rfl _ _ rfl rfl _ _ hap ?_)
    go_roundw
    case rel => exact ⟨k + 1, a + k + 1, by omega, by go_num, by omega, by omega, fun h => by omega, fun h => by omega, H5, _, _, rfl⟩
    case measure => simp [intOf]; omega
  ·obtain rfl : k = u := by omega
   have HE := hide (hR.trans HK.out)
   clear hR hlen
   go_wp2
   go_ret
   exact ⟨_, rfl, HE.out⟩
end

section
open Go.RowKit Dsk
set_option linter.unusedVariables false
set_option linter.unusedSimpArgs false
theorem own_types0 {w : World} {B s : Nat} {e T : TypeId} {v : Value} {n q : Nat} {xs : List Value} {cs : Array Value} {fr : Nat × Nat} (h : w.ownsRow B e s v n xs) (hq : w.heap[q]? = some (.cells cs T fr)) (hT : T ≠ e) : ∀ g, v.ownBlock = some g → g ≠ q := fun g hg e => own_ne h hq hT (by rw [hg, e])
section
variable {w w' : World} {q : Nat} {S S' : Ds} {A : Nat → Nat} {o : Lab} {nv bv tv sv nv' bv' tv' sv' : Value}
theorem RDx.put (h : RDx w q S A o nv bv tv sv) (hk : Keep (· = q) w w') (hc : w'.heap[q]? = some (.cells #[.bool S'.on, .int .i64 S'.room, nv', bv', tv', .int .i64 S'.strokes, .int .i64 S'.planned, .int .i64 S'.off, .int .i64 S'.from_, .int .i64 S'.to, sv'] 80 (0, 0)))
  (hn : w.ownsRow 0 139 2 nv' S'.shown.length (nmsV A S'.shown)) (hb : w.ownsRow 0 139 2 bv' S'.safe.length (nmsV A S'.safe)) (ht : w.ownsRow 0 134 4 tv' S'.row.length (tusV A S'.row)) (hs : w.ownsRow 0 164 3 sv' S'.reads.length (Spv S'.reads))
  (hth : ∀ k, k ∈ S'.lives → Rg w o (k + 2) (A k) (S'.th k)) (ln : ∀ g, nv'.ownBlock = some g → o g = 1) (lb : ∀ g, bv'.ownBlock = some g → o g = 1) (lt : ∀ g, tv'.ownBlock = some g → o g = 1) (ls : ∀ g, sv'.ownBlock = some g → o g = 1)
  (pl : (Lit.int .i64 S'.off).wf = true ∧ (Lit.int .i64 S'.from_).wf = true ∧ (Lit.int .i64 S'.to).wf = true) : RDx w' q S' A o nv' bv' tv' sv' :=
 ⟨hc, own_keeps hn hk (own_types0 hn h.cells (by decide)), own_keeps hb hk (own_types0 hb h.cells (by decide)), own_keeps ht hk (own_types0 ht h.cells (by decide)), own_keeps hs hk (own_types0 hs h.cells (by decide)),
  fun k hk' => (hth k hk').keep hk (fun g hg e => by have e : g = q := e; rw [e, h.lq] at hg; omega), h.lq, ln, lb, lt, ls, fun b hb => Nat.lt_of_lt_of_le (h.lim b hb) hk.size, pl⟩
theorem RDx.ext (h : RDx w q S A o nv bv tv sv) (hk : Kept [] w w') (l : Nat) : RDx w' q S A (o.ext w w' l) nv bv tv sv := by
 have hK : Keep (fun _ => False) w w' := Keep.ofNone hk
 have old : ∀ b, b < w.heap.size → o.ext w w' l b = o b := fun b hb => Lab.ext_old hb
 refine ⟨hK.heapOf h.cells (fun h => h), own_keeps h.now hK (fun _ _ h => h), own_keeps h.before hK (fun _ _ h => h), own_keeps h.turns hK (fun _ _ h => h), own_keeps h.told hK (fun _ _ h => h), fun k hk' => (h.th k hk').ext hK (fun _ _ h => h), (old q h.qlt).trans h.lq, fun g hg => (old g (h.now.lt g hg).2).trans (h.ln g hg), fun g hg => (old g (h.before.lt g hg).2).trans (h.lb g hg), fun g hg => (old g (h.turns.lt g hg).2).trans (h.lt g hg), fun g hg => (old g (h.told.lt g hg).2).trans (h.ls g hg), ?_, h.pl⟩
 intro b hb
 unfold Lab.ext at hb
 split at hb
 ·exact Nat.lt_of_lt_of_le (h.lim b hb) hk.size
 ·split at hb
  ·assumption
  ·exact absurd rfl hb
theorem RDx.thing {k : Nat} {t : Th} {o' : Lab} (h : RDx w q S A o nv bv tv sv) (hk : Keep (fun b => o b = k + 2) w w') (ho : ∀ b, b < w.heap.size → o' b = o b) (hl : ∀ b, o' b ≠ 0 → b < w'.heap.size) (ht : Rg w' o' (k + 2) (A k) t) : RDx w' q { S with th := upd S.th k t } A o' nv bv tv sv := by
 have n1 : ∀ b, o b = 1 → ¬ o b = k + 2 := fun b e e2 => by omega
 refine ⟨hk.heapOf h.cells (n1 q h.lq), own_keeps h.now hk (fun g hg => n1 g (h.ln g hg)), own_keeps h.before hk (fun g hg => n1 g (h.lb g hg)), own_keeps h.turns hk (fun g hg => n1 g (h.lt g hg)), own_keeps h.told hk (fun g hg => n1 g (h.ls g hg)), ?_, (ho q h.qlt).trans h.lq, fun g hg => (ho g (h.now.lt g hg).2).trans (h.ln g hg), fun g hg => (ho g (h.before.lt g hg).2).trans (h.lb g hg), fun g hg => (ho g (h.turns.lt g hg).2).trans (h.lt g hg), fun g hg => (ho g (h.told.lt g hg).2).trans (h.ls g hg), hl, h.pl⟩
 intro j hj
 show Rg w' o' (j + 2) (A j) (upd S.th k t j)
 by_cases e : j = k
 ·subst e; rw [upd_same]; exact ht
 ·rw [upd_other _ _ e]
  have h1 : Rg w o (j + 2) (A j) (S.th j) := h.th j hj
  obtain ⟨a1, a2, a3, a4, h2⟩ := h1
  have h3 := h2.keep hk (fun g hg e2 => by omega)
  refine ⟨a1, a2, a3, a4, h3.cells, h3.safe, h3.shown, h3.eq, h3.row, h3.data, (ho _ h2.lt).trans h2.lb, fun g hg => (ho g (h2.safe.lt hg)).trans (h2.ls g hg), fun g hg => (ho g (h2.shown.lt hg)).trans (h2.lh g hg), fun g hg => (ho g (h2.row.lt g hg).2).trans (h2.lr g hg), fun p hp g hg => (ho g ((h2.data p hp).lt hg)).trans (h2.ld p hp g hg)⟩
theorem RDx.nvs (h : RDx w q S A o nv bv tv sv) : ∃ no nc, nv = .slice no S.shown.length nc := by obtain ⟨a, b, e, _⟩ := own_shape h.now; exact ⟨a, b, e⟩
theorem RDx.bvs (h : RDx w q S A o nv bv tv sv) : ∃ no nc, bv = .slice no S.safe.length nc := by obtain ⟨a, b, e, _⟩ := own_shape h.before; exact ⟨a, b, e⟩
theorem RDx.tvs (h : RDx w q S A o nv bv tv sv) : ∃ no nc, tv = .slice no S.row.length nc := by obtain ⟨a, b, e, _⟩ := own_shape h.turns; exact ⟨a, b, e⟩
theorem RDx.svs (h : RDx w q S A o nv bv tv sv) : ∃ no nc, sv = .slice no S.reads.length nc := by obtain ⟨a, b, e, _⟩ := own_shape h.told; exact ⟨a, b, e⟩
end
theorem Tryz.infoTurn : (Tryz.prog.info? 134).map (fun i => (i.zero, i.size, i.bytes)) = some (some (.agg #[.int .i64 0, .string ⟨#[]⟩, .string ⟨#[]⟩, .pointer none]), 4, 48) := by kernel_rfl
theorem Tryz.infoChange : (Tryz.prog.info? 144).map (fun i => (i.zero, i.size, i.bytes)) = some (some (.agg #[.bool false, .int .i64 0, .slice none 0 0]), 3, 40) := by kernel_rfl
def usedUp (S : Ds) (k : Nat) : Nat := ((S.shown.take k).map (fun p => (S.th p.2).shown.length)).sum
theorem usedUp_zero (S : Ds) : usedUp S 0 = 0 := by simp [usedUp]
theorem usedUp_step (S : Ds) {k : Nat} {p : By × Nat} (h : S.shown[k]? = some p) : usedUp S (k + 1) = usedUp S k + (S.th p.2).shown.length := by
 unfold usedUp
 rw [List.take_add_one, h]
 simp
theorem usedUp_all (S : Ds) {k : Nat} (h : S.shown.length ≤ k) : usedUp S k = S.used := by unfold usedUp Ds.used; rw [List.take_of_length_le h]
end

section
open Go.RowKit Dsk
set_option linter.unusedVariables false
set_option linter.unusedSimpArgs false
theorem okByte_go (c : UInt8) : (if (if (if decide (97 ≤ (c.toNat : Int)) = true then decide ((c.toNat : Int) ≤ 122) else false) = true then true else (if decide (48 ≤ (c.toNat : Int)) = true then decide ((c.toNat : Int) ≤ 57) else false)) = true then true else ((c.toNat : Int) == 46 || (c.toNat : Int) == 45 || (c.toNat : Int) == 95 || (c.toNat : Int) == 43)) = okByte c := by
 have h : ∀ n : Fin 256, (if (if (if decide (97 ≤ (((UInt8.ofNat n.val).toNat : Nat) : Int)) = true then decide ((((UInt8.ofNat n.val).toNat : Nat) : Int) ≤ 122) else false) = true then true else (if decide (48 ≤ (((UInt8.ofNat n.val).toNat : Nat) : Int)) = true then decide ((((UInt8.ofNat n.val).toNat : Nat) : Int) ≤ 57) else false)) = true then true else ((((UInt8.ofNat n.val).toNat : Nat) : Int) == 46 || (((UInt8.ofNat n.val).toNat : Nat) : Int) == 45 || (((UInt8.ofNat n.val).toNat : Nat) : Int) == 95 || (((UInt8.ofNat n.val).toNat : Nat) : Int) == 43)) = okByte (UInt8.ofNat n.val) := by decide +kernel
 have h2 := h ⟨c.toNat, c.toNat_lt⟩
 simp only [UInt8.ofNat_toNat] at h2
 exact h2
theorem okByte_ints (c : UInt8) (x : Int) (hx : x = c.toNat) : okByte c = true ↔ (97 ≤ x ∧ x ≤ 122) ∨ (48 ≤ x ∧ x ≤ 57) ∨ x = 46 ∨ x = 45 ∨ x = 95 ∨ x = 43 := by
 rw [← okByte_go c, ← hx]
 by_cases h1 : 97 ≤ x <;> by_cases h2 : x ≤ 122 <;> by_cases h3 : 48 ≤ x <;> by_cases h4 : x ≤ 57 <;> simp [h1, h2, h3, h4, or_assoc]
set_option maxHeartbeats 1600000 in
set_option maxRecDepth 100000 in
theorem rIsName_ok (t : By) (w : World) (hm : t.length ≤ 4611686018427387904) : Calls Tryz.prog 62 #[.string ⟨t.toArray⟩] w fun e w' => e = .returned (.bool (isNm t)) ∧ w' = w := by
 have hbs : (ByteArray.mk t.toArray).size = t.length := by simp [ByteArray.size]
 have hsz : t.toArray.size = t.length := by simp
 go_enter Tryz.func62, Tryz.ntmps62
 by_cases h1 : t.length < 1
 ·have hf : isNm t = false := by unfold isNm; simp only [Bool.and_eq_false_iff, decide_eq_false_iff_not]; left; left; omega
  have HF := hide hf
  clear hf
  go_wp2
  go_ret
  exact ⟨by rw [HF.out]; rfl, rfl⟩
 by_cases h2 : 112 < t.length
 ·have hf : isNm t = false := by unfold isNm; simp only [Bool.and_eq_false_iff, decide_eq_false_iff_not]; left; right; omega
  have HF := hide hf
  clear hf
  go_wp2
  go_ret
  exact ⟨by rw [HF.out]; rfl, rfl⟩
 have hall : isNm t = t.all okByte := by unfold isNm; simp [show 1 ≤ t.length by omega, show t.length ≤ 112 by omega]
 have HA := hide hall
 clear hall
 go_wp2
 go_loopw [3, 4] (fun i _ wr => ∃ k : Nat, k ≤ t.length ∧ i = .int .i64 k ∧ wr = w ∧ Hid ((t.take k).all okByte = true)) (fun i _ wr => t.length - (intOf i).toNat)
 case atStart => exact ⟨0, by omega, rfl, rfl, by show _ = _; simp⟩
 case round =>
  obtain ⟨k, hk, rfl, hwr, HR⟩ := hrel
  obtain rfl := hwr.symm
  by_cases hlt : k < t.length
  ·have s0 := fun W => Tryz.signAt t k hlt W
   have HG : Hid (t.take (k + 1) = t.take k ++ [t.getD k 0]) := by
    show _ = _
    rw [List.take_succ_eq_append_getElem hlt]
    simp [List.getElem?_eq_getElem hlt]
   have HM : Hid (t.getD k 0 ∈ t) := by
    show _ ∈ _
    simp [List.getElem?_eq_getElem hlt]
   generalize t.getD k 0 = c at s0 HG HM
   have hcb : (c.toNat : Int) ≤ 255 := by have := c.toNat_lt; omega
   have hc0 : (0 : Int) ≤ (c.toNat : Int) := by omega
   obtain ⟨x, hx⟩ : ∃ x : Int, x = (c.toNat : Int) := ⟨_, rfl⟩
   have HOK := hide (okByte_ints c x hx)
   rw [← hx] at s0 hcb hc0
   clear hx
   by_cases hok : okByte c = true
   ·have HO := hide hok
    have HR2 : Hid ((t.take (k + 1)).all okByte = true) := hide (by rw [HG.out, List.all_append, HR.out]; simp [hok])
    have hcs := HOK.out.1 hok
    clear hok HOK HG HM
    by_cases a1 : 97 ≤ x
    ·by_cases a2 : x ≤ 122
     ·clear hcs
      go_wp2
      go_roundw
      case rel => exact ⟨k + 1, by omega, by go_num, trivial, HR2⟩
      case measure => simp [intOf]; omega
     ·exfalso; omega
    ·by_cases a3 : 48 ≤ x
     ·by_cases a4 : x ≤ 57
      ·clear hcs
       go_wp2
       go_roundw
       case rel => exact ⟨k + 1, by omega, by go_num, trivial, HR2⟩
       case measure => simp [intOf]; omega
      ·have a5 : x = 95 := by omega
       subst a5
       clear hcs
       go_wp2
       go_roundw
       case rel => exact ⟨k + 1, by omega, by go_num, trivial, HR2⟩
       case measure => simp [intOf]; omega
     ·by_cases a5 : x = 46
      ·subst a5
       clear hcs
       go_wp2
       go_roundw
       case rel => exact ⟨k + 1, by omega, by go_num, trivial, HR2⟩
       case measure => simp [intOf]; omega
      ·by_cases a6 : x = 45
       ·subst a6
        clear hcs
        go_wp2
        go_roundw
        case rel => exact ⟨k + 1, by omega, by go_num, trivial, HR2⟩
        case measure => simp [intOf]; omega
       ·have a7 : x = 43 := by omega
        subst a7
        clear hcs
        go_wp2
        go_roundw
        case rel => exact ⟨k + 1, by omega, by go_num, trivial, HR2⟩
        case measure => simp [intOf]; omega
   ·have HO : Hid (isNm t = false) := by
     rw [HA.out]
     show _ = _
     rw [Bool.eq_iff_iff]
     simp only [List.all_eq_true]
     constructor
     ·intro h; exact absurd (h c HM.out) hok
     ·intro h; cases h
    have hcs : ¬ ((97 ≤ x ∧ x ≤ 122) ∨ (48 ≤ x ∧ x ≤ 57) ∨ x = 46 ∨ x = 45 ∨ x = 95 ∨ x = 43) := fun h => hok (HOK.out.2 h)
    have n1 : (x == 46) = false := by simp; omega
    have n2 : (x == 45) = false := by simp; omega
    have n3 : (x == 95) = false := by simp; omega
    have n4 : (x == 43) = false := by simp; omega
    clear hok HOK HG HM
    by_cases a1 : 97 ≤ x
    ·have a2 : ¬ x ≤ 122 := by omega
     have a4 : ¬ x ≤ 57 := by omega
     have a3 : 48 ≤ x := by omega
     clear hcs
     go_wp2
     go_ret
     exact ⟨by rw [HO.out]; rfl, rfl⟩
    ·by_cases a3 : 48 ≤ x
     ·have a4 : ¬ x ≤ 57 := by omega
      clear hcs
      go_wp2
      go_ret
      exact ⟨by rw [HO.out]; rfl, rfl⟩
     ·clear hcs
      go_wp2
      go_ret
      exact ⟨by rw [HO.out]; rfl, rfl⟩
  ·go_wp2
   go_ret
   refine ⟨?_, rfl⟩
   rw [HA.out]
   have := HR.out
   rw [List.take_of_length_le (by omega)] at this
   rw [this]
   rfl
end

end Go.Proofs.YtodihkdmneihiaaGreatDoor
