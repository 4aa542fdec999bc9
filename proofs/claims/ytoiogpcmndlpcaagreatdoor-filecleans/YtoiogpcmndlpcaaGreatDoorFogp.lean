/-
  freightlaw6.loaded: a disk with files that are all safe. (Written by tools/fog.py.)
-/
import Derived.Test.YtoiogpcmndlpcaaGreatDoorFofp
namespace Go.Proofs.YtoiogpcmndlpcaaGreatDoor
open Go.RowKit Dsk
set_option linter.unusedVariables false
set_option linter.unusedSimpArgs false

theorem Rowf.mono {w wr wr' : World} {v : Value} {L : List (By × By)} {vs : List Value} (h : Rowf w wr v L vs) (hk : Kept [] wr wr') : Rowf w wr' v L vs :=
  ⟨h.len, own_keeps h.row (Keep.ofNone (F := fun _ => False) hk) (fun _ _ h => h), h.sl, h.kept.trans hk (by simp)⟩
theorem Rowf.app2 {w wr : World} {fo : Option Addr} {m fc : Nat} {L : List (By × By)} {vs : List Value} {x d : By} {bo : Option Addr} {bc : Nat} (h : Rowf w wr (.slice fo m fc) L vs) (hm : m ≤ 1048576) (hs : Sl w bo d) :
    ∃ g c w5, (Builtin.append_ #[36, 36] 36 #[.slice fo m fc, .slice (some ⟨wr.heap.size, 0, none⟩) 1 1]).run Tryz.prog (wr.alloc (.cells #[encStr x, .slice bo d.length bc] 42)) = .ok (.slice (some ⟨g, 0, none⟩) (m + 1) c) w5 ∧ Rowf w w5 (.slice (some ⟨g, 0, none⟩) (m + 1) c) (L ++ [(x, d)]) (vs ++ [.slice bo d.length bc]) := by
  have hn : m = L.length := (h.fis (Kept.refl [] wr)).2
  have hr4 := ownsRow_base_a h.row (Nat.zero_le _)
  rw [← hn] at hr4
  obtain ⟨g, c, w', e1, e2, e3, e4, _⟩ := run_app (P := Tryz.prog) wr 36 36 42 Tryz.underlying36 Tryz.infoFile rfl (by decide) _ m _ hr4 [encStr x, .slice bo d.length bc] rfl (fun z hz => by simp only [List.mem_cons, List.not_mem_nil, or_false] at hz; rcases hz with rfl | rfl <;> rfl) (by unfold maxLen; omega) (by omega)
  refine ⟨g, c, w', e1, h.step (f := (x, d)) rfl hs (by rw [← hn]; exact e2) e3 (fun g' hg' => ?_)⟩
  simp only [Value.ownBlock, Option.some.injEq] at hg'
  subst hg'
  rcases e4 with e | e
  · exact .inl e.symm
  · exact .inr e
theorem total_mem {L : List (By × By)} {f : By × By} (h : f ∈ L) : f.2.length ≤ totalOf L := by
  unfold totalOf
  induction L with
  | nil => cases h
  | cons y r ih =>
    simp only [List.map_cons, List.sum_cons]
    rcases List.mem_cons.1 h with rfl | h
    · omega
    · have := ih h; omega
/-- A list of files that came in: it may begin in the midst of a block. -/
def Fio (w : World) (ao : Option Addr) (L : List (By × By)) : Prop := ∀ i, i < L.length → ∃ b off, ao = some ⟨b, off, none⟩ ∧ ∃ f : By × By, L[i]? = some f ∧ w.cell? ⟨b, off + i * 2, none⟩ = some (encStr f.1) ∧ ∃ bo bc, w.cell? ⟨b, off + i * 2 + 1, none⟩ = some (.slice bo f.2.length bc) ∧ Sl w bo f.2 ∧ (bo = none → f.2.length = 0 ∧ bc = 0)
/-- The files taken so far. -/
structure Tkn (w wr : World) (v : Value) (r : Int) (L : List (By × By)) (vs : List Value) : Prop where
  row : Rowf w wr v L vs
  nm : ∀ f ∈ L, isNm f.1 = true
  nd : (L.map (·.1)).Nodup
  tot : (totalOf L : Int) ≤ r
  nul : ∀ u ∈ vs, ∀ bo m bc, u = .slice bo m bc → bo = none → m = 0 ∧ bc = 0
theorem Tkn.mono {w wr wr' : World} {v : Value} {r : Int} {L : List (By × By)} {vs : List Value} (h : Tkn w wr v r L vs) (hk : Kept [] wr wr') : Tkn w wr' v r L vs := ⟨h.row.mono hk, h.nm, h.nd, h.tot, h.nul⟩
theorem Tkn.fiz {w wr : World} {ao : Option Addr} {n c : Nat} {r : Int} {L : List (By × By)} {vs : List Value} (h : Tkn w wr (.slice ao n c) r L vs) : Fiz wr ao L := by
  intro i b bo m bc hi ha hc hb
  have hv : i < vs.length := by rw [h.row.len]; exact hi
  obtain ⟨q1, q2⟩ := fcells_get L vs i _ _ h.row.len (List.getElem?_eq_getElem hi) (List.getElem?_eq_getElem hv)
  subst ha
  have := h.row.row.cells (g := b) rfl _ _ q2
  rw [add0, hc] at this
  injection this with this
  exact h.nul _ (List.getElem_mem hv) bo m bc this.symm hb
theorem Tkn.app {w wr : World} {fo : Option Addr} {m fc : Nat} {r : Int} {L : List (By × By)} {vs : List Value} {x d : By} {bo : Option Addr} {bc : Nat} (h : Tkn w wr (.slice fo m fc) r L vs) (hm : m ≤ 1048576) (hs : Sl w bo d) (hx : isNm x = true) (hf : L.find? (fun f => f.1 == x) = none) (ht : ((totalOf L + d.length : Nat) : Int) ≤ r) (hz : bo = none → d.length = 0 ∧ bc = 0) :
    ∃ g c w5, (Builtin.append_ #[36, 36] 36 #[.slice fo m fc, .slice (some ⟨wr.heap.size, 0, none⟩) 1 1]).run Tryz.prog (wr.alloc (.cells #[encStr x, .slice bo d.length bc] 42)) = .ok (.slice (some ⟨g, 0, none⟩) (m + 1) c) w5 ∧ Hid (∃ L' vs', Tkn w w5 (.slice (some ⟨g, 0, none⟩) (m + 1) c) r L' vs' ∧ totalOf L' = totalOf L + d.length) := by
  obtain ⟨g, c, w5, e1, e2⟩ := h.row.app2 (x := x) (d := d) (bo := bo) (bc := bc) hm hs
  have e3 : totalOf (L ++ [(x, d)]) = totalOf L + d.length := by simp [totalOf]
  refine ⟨g, c, w5, e1, hide ⟨_, _, ⟨e2, fun f hf => ?_, ?_, by rw [e3]; exact ht, fun u hu => ?_⟩, e3⟩⟩
  · rcases List.mem_append.1 hf with h1 | h1
    · exact h.nm f h1
    · simp only [List.mem_singleton] at h1; rw [h1]; exact hx
  · rw [List.map_append]
    refine List.nodup_append.2 ⟨h.nd, by simp, fun a ha b hb => ?_⟩
    simp only [List.map_cons, List.map_nil, List.mem_singleton] at hb
    subst hb
    rintro rfl
    obtain ⟨q, hq, e⟩ := List.mem_map.1 ha
    have := List.find?_eq_none.1 hf q hq
    simp [e] at this
  · rcases List.mem_append.1 hu with h1 | h1
    · exact h.nul u h1
    · simp only [List.mem_singleton] at h1
      subst h1
      intro bo' m' bc' e
      injection e with e1 e2 e3
      subst e1 e2 e3
      exact hz

set_option maxHeartbeats 3200000 in
set_option maxRecDepth 100000 in
theorem loaded_ok (r : Int) (ao : Option Addr) (n c : Nat) (L : List (By × By)) (w : World) (hx : L.length = n) (hn : n ≤ 4611686018427387900) (hr : 1 ≤ r ∧ r ≤ 1048576) (hM : ∀ f ∈ L, f.1.length ≤ 4611686018427387900 ∧ f.2.length ≤ 4611686018427387900) (h1 : Fio w ao L) :
    Calls Tryz.prog 11 #[.int .i64 r, .slice ao n c] w fun e w' => ∃ p A o S v vs B, e = .returned (.tuple #[.pointer (some ⟨p, 0, none⟩), v]) ∧ PD w' p S A o ∧ AllSafe S ∧ S.on = true ∧ S.strokes = 0 ∧ S.room = r.toNat ∧ S.Bd 1048576 ∧ (∀ b, o b ≠ 0 → w.heap.size ≤ b ∧ b < B) ∧ Fls w' B v S.files vs ∧ Kept [] w w' := by
  have HX := hide hx
  obtain ⟨hr1, hr2⟩ := hr
  have HM := hide hM
  have H1 := hide h1
  clear hx hM h1
  go_enter Tryz.func11, Tryz.ntmps11
  go_wp2
  go_loopw [6, 7, 8] (fun f u i wr => ∃ (k m : Nat) (fo : Option Addr) (fc t : Nat), k ≤ n ∧ k ≤ 20 ∧ i = .int .i64 k ∧ f = .slice fo m fc ∧ u = .int .i64 t ∧ m ≤ k ∧ (t : Int) ≤ r ∧ Hid (∃ Li vs, Tkn w wr (.slice fo m fc) r Li vs ∧ totalOf Li = t)) (fun f u i wr => n - (intOf i).toNat)
  case atStart => exact ⟨0, 0, none, 0, 0, Nat.zero_le _, by omega, rfl, rfl, rfl, Nat.le_refl _, by omega, hide ⟨[], [], ⟨Rowf.start w, by simp, List.nodup_nil, by simp [totalOf]; omega, by simp⟩, rfl⟩⟩
  case round =>
    obtain ⟨k, m, fo, fc, t, hk, hk20, rfl, rfl, rfl, hmk, ht, HTK⟩ := hrel
    by_cases hlt : k < n ∧ k < 20
    · obtain ⟨hlt, hl20⟩ := hlt
      obtain ⟨b1, off1, rfl, ⟨x, d⟩, hs, e1, bo1, bc1, e2, s1, hz0'⟩ := H1.out k (by rw [HX.out]; exact hlt)
      have hz0 := hide hz0'
      clear hz0'
      obtain ⟨Li, vs, hT, htot⟩ := HTK.out
      replace e1 := hT.row.kept.cellOf e1 (by simp)
      replace e2 := hT.row.kept.cellOf e2 (by simp)
      dsimp only at e1 e2 s1
      obtain ⟨hxl, hdl⟩ := HM.out _ (List.mem_of_getElem? hs)
      dsimp only at hxl hdl
      have hA : Kept [] wr (wr.alloc (.cells #[encStr x, .slice bo1 d.length bc1] 42)) := (Kept.refl [] wr).alloc _
      have hcx : (wr.alloc (.cells #[encStr x, .slice bo1 d.length bc1] 42)).cell? ⟨wr.heap.size, 0, none⟩ = some (encStr x) := by rw [cell_of_row _ _ _ _ _ _ (MapKept.heap_alloc wr _).1]; rfl
      have hcd : (wr.alloc (.cells #[encStr x, .slice bo1 d.length bc1] 42)).cell? ⟨wr.heap.size, 1, none⟩ = some (.slice bo1 d.length bc1) := by rw [cell_of_row _ _ _ _ _ _ (MapKept.heap_alloc wr _).1]; rfl
      have HT := hide (show Tkn w (wr.alloc (.cells #[encStr x, .slice bo1 d.length bc1] 42)) (.slice fo m fc) r Li vs ∧ totalOf Li = t ∧ Sl w bo1 d from ⟨hT.mono hA, htot, s1⟩)
      clear hT hs HTK hA htot s1
      go_upto_region 7 with (fail)
      generalize (wr.alloc (.cells #[encStr x, .slice bo1 d.length bc1] 42)) = wA at HT hcx hcd ⊢
      generalize wr.heap.size = lb at hcx hcd ⊢
      clear e1 e2
      have hin := risName_ok x wA (by omega)
      by_cases hnm : isNm x = true
      · rw [hnm] at hin
        by_cases hbig : r < (t : Int) + d.length
        · have HTK : Hid (∃ Li vs, Tkn w wA (.slice fo m fc) r Li vs ∧ totalOf Li = t) := hide ⟨Li, vs, HT.out.1, HT.out.2.1⟩
          clear HT hz0
          generalize d.length = z at *
          go_wp2_with (go_at_call 54; refine hin.mono ?_; rintro e w' ⟨rfl, hww⟩; obtain rfl := hww.symm; clear hin)
          go_roundw
          case rel => exact ⟨k + 1, m, fo, fc, t, by omega, by omega, by go_num, rfl, rfl, by omega, ht, HTK⟩
          case measure => simp [intOf]; omega
        · have hat := at_ok fo m fc Li x wA ((HT.out.1.row.fis (Kept.refl [] wA)).2.symm) (by omega) ((HT.out.1.row.fis (Kept.refl [] wA)).1)
          rcases fpos_find Li x 0 with ⟨hp, hfi⟩ | ⟨j, f, hp, hj, hfi, hfx⟩
          · rw [hp] at hat
            have HAP : Hid (∀ wB, Kept [] wA wB → ∃ g cc w5, (Builtin.append_ #[36, 36] 36 #[.slice fo m fc, .slice (some ⟨wB.heap.size, 0, none⟩) 1 1]).run Tryz.prog (wB.alloc (.cells #[encStr x, .slice bo1 d.length bc1] 42)) = .ok (.slice (some ⟨g, 0, none⟩) (m + 1) cc) w5 ∧ Hid (∃ L' vs', Tkn w w5 (.slice (some ⟨g, 0, none⟩) (m + 1) cc) r L' vs' ∧ totalOf L' = t + d.length)) := hide (fun wB hB => by
              have := (HT.out.1.mono hB).app (x := x) (d := d) (bo := bo1) (bc := bc1) (by omega) HT.out.2.2 hnm hfi (by rw [HT.out.2.1]; omega) hz0.out
              rw [HT.out.2.1] at this
              exact this)
            clear HT hz0 hfi hp hnm
            generalize d.length = z at *
            go_wp2_with (first
              | (go_at_call 54; refine hin.mono ?_; rintro e w' ⟨rfl, hww⟩; obtain rfl := hww.symm; clear hin)
              | (go_at_call 55; refine hat.mono ?_; rintro e wB ⟨rfl, jj, hwB⟩; have hkB : Kept [] wA wB := (by rw [hwB]; exact (Kept.refl [] wA).drewN _); have hcx2 := hkB.cellOf hcx (by simp); have hcd2 := hkB.cellOf hcd (by simp); obtain ⟨ga, gc, w5, hap, H5⟩ := HAP.out wB hkB; clear hat hwB hkB HAP hcx hcd)
              | (at_builtin; refine wpList_app_run rfl _ _ 36 36 rfl _ _ rfl rfl _ _ hap ?_))
            go_roundw
            case rel => exact ⟨k + 1, m + 1, _, _, t + z, by omega, by omega, by go_num, rfl, by go_num, by omega, by omega, H5⟩
            case measure => simp [intOf]; omega
          · rw [hp, Nat.zero_add] at hat
            have HTK : Hid (∀ wB, Kept [] wA wB → ∃ Li vs, Tkn w wB (.slice fo m fc) r Li vs ∧ totalOf Li = t) := hide (fun wB hB => ⟨Li, vs, HT.out.1.mono hB, HT.out.2.1⟩)
            clear HT hz0 hfi hp hj hfx
            generalize d.length = z at *
            go_wp2_with (first
              | (go_at_call 54; refine hin.mono ?_; rintro e w' ⟨rfl, hww⟩; obtain rfl := hww.symm; clear hin)
              | (go_at_call 55; refine hat.mono ?_; rintro e wB ⟨rfl, jj, hwB⟩; have HKB : Hid (Kept [] wA wB) := hide (by rw [hwB]; exact (Kept.refl [] wA).drewN _); clear hat hwB))
            go_roundw
            case rel => exact ⟨k + 1, m, fo, fc, t, by omega, by omega, by go_num, rfl, rfl, by omega, ht, hide (HTK.out _ HKB.out)⟩
            case measure => simp [intOf]; omega
      · have hnf : isNm x = false := by simpa using hnm
        rw [hnf] at hin
        have HTK : Hid (∃ Li vs, Tkn w wA (.slice fo m fc) r Li vs ∧ totalOf Li = t) := hide ⟨Li, vs, HT.out.1, HT.out.2.1⟩
        clear HT hz0 hnm hnf
        generalize d.length = z at *
        go_wp2_with (go_at_call 54; refine hin.mono ?_; rintro e w' ⟨rfl, hww⟩; obtain rfl := hww.symm; clear hin)
        go_roundw
        case rel => exact ⟨k + 1, m, fo, fc, t, by omega, by omega, by go_num, rfl, rfl, by omega, ht, HTK⟩
        case measure => simp [intOf]; omega
    · obtain ⟨Li, vs, hT, htot⟩ := HTK.out
      obtain ⟨q1, q2⟩ := hT.row.fis (Kept.refl [] wr)
      have hld := load_fine r fo m fc Li wr q2.symm (by omega) ⟨hr1, hr2⟩ hT.nm hT.nd hT.tot (fun f hf => by have := total_mem hf; have := hT.tot; omega) q1 hT.fiz
      have HB : Hid ((Ds.load r.toNat Li).Bd 1048576) := hide (Bd.load (by omega) (fun f hf => by have := total_mem hf; have := hT.tot; omega))
      have HK0 := hide hT.row.kept
      have hcond : (k : Int) < n → ¬ (k : Int) < 20 := fun h1 h2 => hlt ⟨by omega, by omega⟩
      clear hT q1 q2 HTK htot
      have hb : (k < n ∧ ¬ k < 20) ∨ ¬ k < n := by omega
      rcases hb with ⟨hb1, hb2⟩ | hb1
      all_goals
        clear hcond
        go_upto_region 11 with (go_at_call 56; refine hld.mono ?_; rintro e w3 ⟨p, A, o, rfl, hPD, hnew, hk3⟩; have HP := hide hPD; have HW := hide hnew; have HK3 := hide hk3; clear hld hPD hnew hk3)
        have hfi := files_ok HP.out HB.out (by omega)
        go_wp2_with (go_at_call 17; refine hfi.mono ?_; rintro e w4 ⟨v, vs4, rfl, hF, hk4⟩; have HF := hide hF; have HK4 := hide hk4; clear hfi hF hk4)
        go_ret2
        refine ⟨p, A, o, Ds.load r.toNat Li, _, vs4, w3.heap.size, rfl, HP.out.keep (Keep.ofNone (F := fun _ => False) HK4.out) (fun _ _ h => h), AllSafe.load _ _, rfl, rfl, rfl, HB.out, fun b hb => ⟨Nat.le_trans HK0.out.size (HW.out b hb), ?_⟩, HF.out, (HK0.out.trans HK3.out (by simp)).trans HK4.out (by simp)⟩
        obtain ⟨_, _, _, _, hx⟩ := HP.out
        exact hx.lim b hb
end Go.Proofs.YtoiogpcmndlpcaaGreatDoor
