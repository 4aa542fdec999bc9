/-
  Contracts of freightref5: Reads, List.
-/
import Derived.Test.YtmoaaimjgdbelaaGreatIep
import Derived.Test.YtmoaaimjgdbelaaGreatIbp
namespace Go.Proofs.YtmoaaimjgdbelaaGreat
open Go.RowKit Dsk
set_option linter.unusedVariables false
set_option linter.unusedSimpArgs false

/-- append([]T{}, x...) for elements of any size. -/
theorem run_freshS (v : World) (t ty e : TypeId) {z : Value} {s bs : Nat} (ht : Tryz.prog.underlying t = some (.slice e)) (hi : (Tryz.prog.info? e).map (fun i => (i.zero, i.size, i.bytes)) = some (some z, s, bs)) (hzs : z.cells.size = s) (hs : 0 < s) (x : Value) (n : Nat) (ys : List Value) (hx : v.ownsRow 0 e s x n ys) (h1 : ∀ u ∈ ys, u.oneCell' = true) (hn : n ≤ maxLen) (hb : n * bs ≤ 140737488355328) :
    ∃ g c' w', (Builtin.append_ #[t, t] ty #[.slice (some ⟨v.heap.size, 0, none⟩) 0 0, x]).run Tryz.prog (v.alloc (.cells #[] e)) = .ok (.slice (some ⟨g, 0, none⟩) n c') w' ∧ w'.ownsRow 0 e s (.slice (some ⟨g, 0, none⟩) n c') n ys ∧ Kept [] v w' ∧ v.heap.size ≤ g := by
  have hown : (v.alloc (.cells #[] e)).ownsRow v.heap.size e s (.slice (some ⟨v.heap.size, 0, none⟩) 0 0) 0 [] := World.ownsRow_made v #[] 0 (Nat.le_refl _) (by decide) (by simp)
  have hk := (Kept.refl [] v).alloc (.cells #[] e)
  obtain ⟨i0, hi, hz0, hz1, hz2⟩ := info_parts hi
  rcases hx.2 with ⟨rfl, rfl⟩ | ⟨g0, cap0, cur0, rfl, _, hg0, hn0, hc0, hs0, ht0⟩
  · have : ys = [] := List.eq_nil_of_length_eq_zero (by have := hx.1; simpa using this)
    subst this
    exact ⟨v.heap.size, 0, _, run_append_owned_none (P := Tryz.prog) (w := v.alloc (.cells #[] e)) v.heap.size t ty e i0 s ht hi _ 0 [] hown, ownsRow_base_a hown (Nat.zero_le _), hk, Nat.le_refl _⟩
  · obtain ⟨v', w', hrun, h1', h2, h3, h4⟩ := run_append_own_at (P := Tryz.prog) (v.alloc (.cells #[] e)) v.heap.size t ty e i0 z s bs ht hi hz0 hz1 hz2 hzs hs _ 0 [] hown ⟨g0, 0, none⟩ n cap0 ys (by have := hx.1; omega) (fun j u hj => (hx.alloc (.cells #[] e)).cells (g := g0) rfl j u hj) h1 (by omega) (by rw [Nat.zero_add]; exact hb) hk.size
    rw [Nat.zero_add, List.nil_append] at h1'
    have hk' : Kept [] v w' := hk.grown h2 (by intro k hk2 hlt; simp [Value.ownBlock] at hk2; omega)
    rcases h1'.2 with ⟨e1, e2⟩ | ⟨g, cap', cur, e1, hg, _⟩
    · have := (h3.1 e1).1
      simp at this
    · subst e1
      exact ⟨g, cap', w', hrun, ownsRow_base_a h1' (Nat.zero_le _), hk', hg⟩

section
variable {w : World} {q : Nat} {S : Ds} {A : Nat → Nat} {o : Lab} {nv bv tv sv : Value}

set_option maxHeartbeats 1600000 in
set_option maxRecDepth 100000 in
theorem rreads_ok (h : RDx w q S A o nv bv tv sv) (hn : S.reads.length ≤ 536870912) :
    Calls Tryz.prog 54 #[.pointer (some ⟨q, 0, none⟩)] w fun e w' => ∃ g c, e = .returned (.slice (some ⟨g, 0, none⟩) S.reads.length c) ∧ w'.ownsRow 0 127 3 (.slice (some ⟨g, 0, none⟩) S.reads.length c) S.reads.length (Spv S.reads) ∧ Kept [] w w' ∧ w.heap.size ≤ g := by
  have c10 := h.cell 10 _ rfl
  obtain ⟨so, sc, rfl⟩ := h.svs
  obtain ⟨g, c', w', hap, q1, q2, q3⟩ := run_freshS w 68 68 127 Tryz.underlying68 Tryz.infoSpan rfl (by decide) _ _ _ h.told (fun u hu => by
    simp only [Spv, List.mem_flatMap] at hu
    obtain ⟨s, _, hs⟩ := hu
    simp only [encSp, List.mem_cons, List.not_mem_nil, or_false] at hs
    rcases hs with rfl | rfl | rfl <;> rfl) (by unfold maxLen; omega) (by omega)
  generalize S.reads.length = n at *
  have HE := hide (And.intro q1 (And.intro q2 q3))
  clear h q1 q2 q3
  have d10 : (w.alloc (.cells #[] 127)).cell? ⟨q, 10, none⟩ = some (.slice so n sc) := ((Kept.refl [] w).alloc _).cellOf c10 (by simp)
  go_enter Tryz.func54, Tryz.ntmps54
  go_wp2_with (at_builtin; refine wpList_app_run rfl _ _ 68 68 rfl _ _ rfl rfl _ _ hap ?_)
  go_ret
  exact ⟨g, c', rfl, HE.out.1, HE.out.2.1, HE.out.2.2⟩

/-- A row of texts while it is made. -/
structure Tl (w wr : World) (v : Value) (l : List By) : Prop where
  row : wr.ownsRow 0 9 1 v l.length (l.map encStr)
  new : ∀ g, v.ownBlock = some g → w.heap.size ≤ g
  keep : Kept [] w wr
theorem Tl.app {w wr : World} {fo : Option Addr} {m fc : Nat} {l : List By} (h : Tl w wr (.slice fo m fc) l) (hm : l.length = m) (hb : m ≤ 1073741824) (n : By) :
    ∃ g c w5, (Builtin.append_ #[106, 106] 106 #[.slice fo m fc, .slice (some ⟨wr.heap.size, 0, none⟩) 1 1]).run Tryz.prog (wr.alloc (.cells #[encStr n] 9)) = .ok (.slice (some ⟨g, 0, none⟩) (m + 1) c) w5 ∧ Tl w w5 (.slice (some ⟨g, 0, none⟩) (m + 1) c) (l ++ [n]) := by
  have hr := h.row
  rw [hm] at hr
  obtain ⟨g, c, w', e1, e2, e3, e4, _⟩ := run_app (P := Tryz.prog) wr 106 106 9 Tryz.underlying106 Tryz.infoStr rfl (by decide) _ m _ hr [encStr n] rfl (fun z hz => by simp only [List.mem_singleton] at hz; rw [hz]; rfl) (by unfold maxLen; omega) (by omega)
  have hK := e3 (fun k => (Value.slice fo m fc).ownBlock = some k) (fun _ e => e)
  refine ⟨g, c, w', e1, ⟨?_, ?_, ?_⟩⟩
  · rw [List.map_append, List.length_append, hm]
    exact e2
  · intro g' hg'
    simp only [Value.ownBlock, Option.some.injEq] at hg'
    subst hg'
    rcases e4 with e | e
    · exact h.new g e.symm
    · exact Nat.le_trans h.keep.size e
  · exact ⟨hK.os.trans h.keep.os, hK.tape.trans h.keep.tape, hK.output.trans h.keep.output, Nat.le_trans h.keep.size hK.size, fun i hi _ => (hK.block i (Nat.lt_of_lt_of_le hi h.keep.size) (fun e => by have := h.new i e; omega)).trans (h.keep.block i hi (by simp))⟩

set_option maxHeartbeats 1600000 in
set_option maxRecDepth 100000 in
theorem rlist_ok (h : RDx w q S A o nv bv tv sv) (hwf : S.Wf) (hn : S.shown.length ≤ 268435456) (p : By) (hp : p.length ≤ 4611686018427387904) :
    Calls Tryz.prog 57 #[.pointer (some ⟨q, 0, none⟩), encStr p] w fun e w' => ∃ v, e = .returned v ∧ Tl w w' v (S.list p) := by
  have hoff := roff_ok h
  have HT0 : Hid (Tl w w (.slice none 0 0) []) := hide ⟨World.ownsRow_nil _ _ _ _, by simp [Value.ownBlock], Kept.refl _ _⟩
  cases hon : S.on with
  | false =>
    have HL : Hid (S.list p = []) := hide (by simp [Ds.list, hon])
    rw [hon] at hoff
    clear h hon
    go_enter Tryz.func57, Tryz.ntmps57
    go_wp2_with (go_at_call 45; refine hoff.mono ?_; rintro e w' ⟨rfl, hw⟩; obtain rfl := hw.symm; clear hoff)
    go_ret
    rw [HL.out]
    exact ⟨_, rfl, HT0.out⟩
  | true =>
    have HLS : Hid (S.list p = pre p S.shown.keys) := hide (by simp [Ds.list, hon, pre])
    have HNM : Hid (∀ x ∈ S.shown, x.1.length ≤ 112) := hide (fun x hx => isNm_len (hwf.snm _ hx))
    obtain ⟨M, hM⟩ : ∃ M, S.shown.length = M := ⟨_, rfl⟩
    obtain ⟨no, nc, hnv⟩ := h.nvs
    rw [hM] at hn hnv
    subst hnv
    have HC2 := hide (h.cell 2 _ rfl)
    have HM := hide hM
    have HH := hide h
    rw [hon] at hoff
    have hsp : (ByteArray.mk p.toArray).size = p.length := by simp [ByteArray.size]
    clear h hon hM
    go_enter Tryz.func57, Tryz.ntmps57
    go_wp2_with (go_at_call 45; refine hoff.mono ?_; rintro e w' ⟨rfl, hw⟩; obtain rfl := hw.symm; clear hoff)
    go_loopw [5, 6, 7] (fun f i _ wr => ∃ k m : Nat, k ≤ M ∧ m ≤ k ∧ i = .int .i64 k ∧ Hid (Tl w wr f (pre p (S.shown.keys.take k)) ∧ (pre p (S.shown.keys.take k)).length = m) ∧ ∃ fo fc, f = .slice fo m fc) (fun f i _ wr => M - (intOf i).toNat)
    case atStart => exact ⟨0, 0, by omega, by omega, rfl, hide ⟨by simpa [pre] using HT0.out, by simp [pre]⟩, none, 0, rfl⟩
    case round =>
      clear HT0
      obtain ⟨k, m, hk, hmk, rfl, HR, fo, fc, rfl⟩ := hrel
      obtain ⟨hR, hm⟩ := HR.out
      clear HR
      have c2 := hR.keep.cellOf HC2.out (by simp)
      by_cases hlt : k < M
      · have hHr := HH.out.kept hR.keep
        obtain ⟨⟨nm, id⟩, hpk⟩ : ∃ q, S.shown[k]? = some q := ⟨S.shown[k]'(by rw [HM.out]; exact hlt), List.getElem?_eq_getElem _⟩
        obtain ⟨gn, rfl, hc0, hc1⟩ := nms_cell (n := M) (by have := hHr.now; rw [HM.out] at this ⊢; exact this) hpk
        have hkk : S.shown.keys[k]? = some nm := by simp [Nm.keys, hpk]
        have hnl : nm.length ≤ 112 := HNM.out _ (List.mem_of_getElem? hpk)
        have hps := pre_snoc p S.shown.keys k nm hkk
        have hss : (ByteArray.mk nm.toArray).size = nm.length := by simp [ByteArray.size]
        have hE := ext_take nm p.length
        by_cases hle : p.length ≤ nm.length
        · cases hb : nm.take p.length == p with
          | true =>
            rw [if_pos (by rw [isPrefix_take]; exact hb)] at hps
            obtain ⟨ga, gc, w5, hap, hT5⟩ := hR.app hm (by omega) nm
            have H5 : Hid (Tl w w5 (.slice (some ⟨ga, 0, none⟩) (m + 1) gc) (pre p (S.shown.keys.take (k + 1))) ∧ (pre p (S.shown.keys.take (k + 1))).length = m + 1) := hide (by rw [hps]; exact ⟨hT5, by simp [hm]⟩)
            clear hHr hpk hkk hps hR hm hT5 hc1
            go_wp2_with (at_builtin; refine wpList_app_run rfl _ _ 106 106 rfl _ _ rfl rfl _ _ hap ?_)
            go_roundw
            case rel => exact ⟨k + 1, m + 1, by omega, by omega, by go_num, H5, _, _, rfl⟩
            case measure => simp [intOf]; omega
          | false =>
            rw [if_neg (by rw [isPrefix_take, hb]; decide), List.append_nil] at hps
            have H5 : Hid (Tl w wr (.slice fo m fc) (pre p (S.shown.keys.take (k + 1))) ∧ (pre p (S.shown.keys.take (k + 1))).length = m) := hide (by rw [hps]; exact ⟨hR, hm⟩)
            clear hHr hpk hkk hps hR hm hc1
            go_wp2
            go_roundw
            case rel => exact ⟨k + 1, m, by omega, by omega, by go_num, H5, _, _, rfl⟩
            case measure => simp [intOf]; omega
        · rw [if_neg (by rw [notPrefix_len p nm hle]; decide), List.append_nil] at hps
          have H5 : Hid (Tl w wr (.slice fo m fc) (pre p (S.shown.keys.take (k + 1))) ∧ (pre p (S.shown.keys.take (k + 1))).length = m) := hide (by rw [hps]; exact ⟨hR, hm⟩)
          clear hHr hpk hkk hps hR hm hc1
          go_wp2
          go_roundw
          case rel => exact ⟨k + 1, m, by omega, by omega, by go_num, H5, _, _, rfl⟩
          case measure => simp [intOf]; omega
      · have HE : Hid (Tl w wr (.slice fo m fc) (S.list p)) := hide (by
          rw [HLS.out]
          have := hR
          rw [List.take_of_length_le (by simp [Nm.keys]; rw [HM.out]; omega)] at this
          exact this)
        clear hR hm
        go_wp2
        go_ret
        exact ⟨_, rfl, HE.out⟩
end
end Go.Proofs.YtmoaaimjgdbelaaGreat
