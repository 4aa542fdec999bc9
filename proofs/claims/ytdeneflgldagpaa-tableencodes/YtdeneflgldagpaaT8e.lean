/-
  append of one byte. Contracts: freightref1.Number (below 128), freightref8.Encode. (Written by tools/t8e.py.)
-/
import Derived.Test.YtdeneflgldagpaaT8b
import Derived.Test.YtdeneflgldagpaaZj
import Derived.Test.YtdeneflgldagpaaZl
namespace Go.Proofs.Ytdeneflgldagpaa
open Go.RowKit Go.Sort
set_option linter.unusedVariables false
set_option linter.unusedSimpArgs false

/-- Bytes in memory of a call's own. -/
def OwnB (w : World) (base : Nat) (v : Value) (xs : List UInt8) : Prop := w.ownsRow base 5 1 v xs.length (bys xs)
theorem Try.infoByte3 : (Try.prog.info? 5).map (fun i => (i.zero, i.size, i.bytes)) = some (some (.int .u8 0), 1, 1) := by kernel_rfl
theorem OwnB.nil (w : World) (base : Nat) : OwnB w base (.slice none 0 0) [] := World.ownsRow_nil _ _ _ _
theorem OwnB.lt {w : World} {base : Nat} {v : Value} {xs : List UInt8} (h : OwnB w base v xs) {g : Nat} (hg : v.ownBlock = some g) : base ≤ g ∧ g < w.heap.size := by
  rcases h.2 with ⟨rfl, _⟩ | ⟨g', cap, cur, rfl, hb, hh, _⟩
  · cases hg
  · simp only [Value.ownBlock, Option.some.injEq] at hg
    subst hg
    exact ⟨hb, (Array.getElem?_eq_some_iff.1 hh).1⟩
theorem own_keep {w w' : World} {base : Nat} {t : TypeId} {s : Nat} {v : Value} {n : Nat} {xs : List Value} (h : w.ownsRow base t s v n xs) (hk : Kept [] w w') : w'.ownsRow base t s v n xs := by
  refine ⟨h.1, ?_⟩
  rcases h.2 with h0 | ⟨g, cap, cur, hv, hb, hg, rest⟩
  · exact .inl h0
  · refine .inr ⟨g, cap, cur, hv, hb, ?_, rest⟩
    rw [hk.block g (Array.getElem?_eq_some_iff.1 hg).1 (by simp)]
    exact hg
/-- append(row, one byte): the byte's own row is new. -/
theorem run_app1 (w : World) (base : Nat) (v : Value) (xs : List UInt8) (c : UInt8) (h : OwnB w base v xs) (hl : xs.length + 1 ≤ 140737488355328) (hb : base ≤ w.heap.size) :
    ∃ v' w', (Builtin.append_ #[25, 25] 25 #[v, .slice (some ⟨w.heap.size, 0, none⟩) 1 1]).run Try.prog (w.alloc (.cells #[.int .u8 c.toNat] 5)) = .ok v' w' ∧ OwnB w' base v' (xs ++ [c]) ∧ Below base w w' := by
  obtain ⟨i0, hi, hz0, hz1, hz2⟩ := info_parts Try.infoByte3
  have kN : Kept [] w (w.alloc (.cells #[.int .u8 c.toNat] 5)) := (Kept.refl [] w).alloc _
  have h' : OwnB (w.alloc (.cells #[.int .u8 c.toNat] 5)) base v xs := own_keep h kN
  have hnew := heap_new w (.cells #[.int .u8 c.toNat] 5)
  obtain ⟨v', w', hrun, h1', h2, h3, h4⟩ := run_append_own_at (P := Try.prog) (w.alloc (.cells #[.int .u8 c.toNat] 5)) base 25 25 5 i0 (.int .u8 0) 1 1 Try.underlying25 hi hz0 hz1 hz2 rfl (by omega) v xs.length (bys xs) h' ⟨w.heap.size, 0, none⟩ 1 1 (bys [c]) rfl
    (fun j u hj => by obtain ⟨hj', rfl⟩ := bys_get hj; rw [Addr.add_mid, Nat.zero_add, cell_of_row _ _ _ _ _ _ hnew]; obtain rfl : j = 0 := by simpa using hj'
                      rfl) (bys_oneCell [c]) (by unfold maxLen; omega) (by omega) (Nat.le_trans hb kN.size)
  refine ⟨v', w', hrun, ?_, ?_⟩
  · unfold OwnB
    rw [List.length_append, bys_append]
    exact h1'
  · have k2 : Kept v.ownBlock.toList w w' := ((Kept.refl v.ownBlock.toList w).alloc _).grown h2 (fun k hk _ => by simp [hk])
    exact k2.below hb (fun g hg => (h.lt (by simpa using hg)).1)

set_option maxHeartbeats 1600000 in
set_option maxRecDepth 100000 in
theorem refnumber_ok (n : Nat) (hn : n < 128) (w : World) :
    Calls Try.prog 33 #[.int .i64 n] w fun r w' => ∃ v, r = .returned v ∧ OwnB w' w.heap.size v [UInt8.ofNat n] ∧ Below w.heap.size w w' := by
  have h1 : ¬ (128 : Int) ≤ (n : Int) := by omega
  have hw : IntKind.u8.wrap (n : Int) = n := by rw [IntKind.wrap_u8]; omega
  obtain ⟨v, w2, hrun, ho, hb⟩ := run_app1 w w.heap.size (.slice none 0 0) [] (UInt8.ofNat n) (OwnB.nil _ _) (by simp) (Nat.le_refl _)
  have e1 : ((UInt8.ofNat n).toNat : Int) = n := by rw [UInt8.toNat_ofNat', Nat.mod_eq_of_lt (by omega)]
  rw [e1] at hrun
  have HO := hide (And.intro ho hb)
  clear ho hb e1
  go_enter Try.func33, Try.ntmps33
  go_wp2
  go_loopw [0, 3] (fun x y wr => x = .int .i64 n ∧ y = .slice none 0 0 ∧ wr = w) (fun x y wr => 0)
  case atStart => exact ⟨rfl, rfl, rfl⟩
  case round =>
    obtain ⟨rfl, rfl, hw'⟩ := hrel
    obtain rfl := hw'.symm
    go_wp2_with (refine wpList_app_run rfl (.tmp 15) (.tmp 18) 25 25 rfl (.slice none 0 0) (.slice (some ⟨w.heap.size, 0, none⟩) 1 1) rfl rfl v w2 hrun ?_)
    go_ret
    exact ⟨v, rfl, HO.out.1, HO.out.2⟩
set_option maxHeartbeats 3200000 in
set_option maxRecDepth 100000 in
theorem refencode_no (ao : Option Addr) (n cap : Nat) (L : List Res) (w : World) (hn : L.length = n) (hm : n ≤ 4611686018427387904) (hL : Ress w ao L) (ht : Tb.valid L = false) :
    Calls Try.prog 11 #[.slice ao n cap] w fun r w' => Told w w' r false [] := by
  have ha := refvalid_ok ao n cap L w hn hL hm
  rw [ht] at ha
  clear hL ht
  go_enter Try.func11, Try.ntmps11
  go_wp2_with (go_at_call 14; refine ha.mono ?_; rintro r w1 ⟨rfl, hb⟩)
  go_ret2
  exact ⟨⟨_, rfl, World.ownsRow_nil _ _ _ _⟩, hb.below (Nat.le_refl _) (by simp)⟩

set_option maxHeartbeats 6400000 in
set_option maxRecDepth 100000 in
theorem refencode_yes (ao : Option Addr) (n cap : Nat) (L : List Res) (w : World) (hn : L.length = n) (hL : Ress w ao L) (ht : Tb.valid L = true) :
    Calls Try.prog 11 #[.slice ao n cap] w fun r w' => Told w w' r true (Tb.encT L) := by
  have h32 := Tb.valid_len ht
  rw [hn] at h32
  have ha := refvalid_ok ao n cap L w hn hL (by omega)
  rw [ht] at ha
  have HCD : Hid (∀ k, k < L.length → 0 ≤ (L.getD k res0).code ∧ (L.getD k res0).code ≤ 255) := fun k hk => Tb.valid_code ht hk
  have HN := hide hn
  have HL := hide hL
  clear hn hL ht
  go_enter Try.func11, Try.ntmps11
  go_upto_region 4 with (go_at_call 14; refine ha.mono ?_; rintro r w1 ⟨rfl, hb1⟩; have H1 := hide hb1; clear hb1)
  clear ha
  have hnum := refnumber_ok n (by omega) w1
  go_wp2_with (go_at_call 33; refine hnum.mono ?_; rintro r w2 ⟨v0, rfl, ho2, hb2⟩; have H2 := hide (And.intro ho2 hb2); clear ho2 hb2 hnum)
  have B2 : Hid (OwnB w2 w.heap.size v0 [UInt8.ofNat n] ∧ Below w.heap.size w w2) := ⟨own_base H2.out.1 H1.out.size, (H1.out.below (Nat.le_refl _) (by simp)).trans (H2.out.2.mono H1.out.size)⟩
  clear H1 H2
  go_loopw [5, 6] (fun x y wr => ∃ k : Nat, k ≤ n ∧ y = .int .i64 k ∧ Hid (OwnB wr w.heap.size x (UInt8.ofNat n :: (L.take k).flatMap Tb.encE)) ∧ Hid (Below w.heap.size w wr)) (fun x y wr => n - (intOf y).toNat)
  case atStart => exact ⟨0, Nat.zero_le _, rfl, by show OwnB _ _ _ _; simpa using B2.out.1, B2.out.2⟩
  case round =>
    clear B2
    obtain ⟨k, hk, rfl, HO, HB⟩ := hrel
    by_cases hlt : k < n
    · have hkl : k < L.length := by rw [HN.out]; exact hlt
      obtain ⟨b, off, rfl, hrk⟩ := HL.out k hkl
      have HF := hide (Tb.flat_snoc L k hkl)
      have HC := hide (HCD.out k hkl)
      have HPL : Hid ((UInt8.ofNat n :: (L.take k).flatMap Tb.encE).length ≤ 3000) := by
        have := Tb.flat_len (L.take k)
        show _ ≤ _
        rw [List.length_take] at this
        simp only [List.length_cons]
        omega
      have HR := hide hrk
      clear hrk
      generalize L.getD k res0 = e at HF HC HR
      obtain ⟨P, hP⟩ : ∃ P, UInt8.ofNat n :: (L.take k).flatMap Tb.encE = P := ⟨_, rfl⟩
      have HFP : Hid (UInt8.ofNat n :: (L.take (k + 1)).flatMap Tb.encE = P ++ Tb.encE e) := by show _ = _; rw [HF.out, ← hP]; simp
      rw [hP] at HO HPL
      clear hP HF
      obtain ⟨W0, hW0⟩ : ∃ W0, W0 = wr := ⟨_, rfl⟩
      subst hW0
      go_wp2
      go_loopw [5, 7] (fun x y wr => ∃ j : Nat, j ≤ 32 ∧ y = .int .i64 j ∧ Hid (OwnB wr w.heap.size x (P ++ e.action.take j)) ∧ Hid (Below w.heap.size w wr)) (fun x y wr => 32 - (intOf y).toNat)
      case atStart => exact ⟨0, Nat.zero_le _, rfl, by show OwnB _ _ _ _; simpa using HO.out, HB.out⟩
      case round =>
        clear HO HB
        obtain ⟨j, hj, rfl, HO, HB⟩ := hrel
        by_cases hlj : j < 32
        · have cc : wr.cell? ⟨b, off + k * 65 + j, none⟩ = some (.int .u8 (e.action.getD j 0).toNat) := (Kept.of_below HB.out).cellOf (HR.out j _ (Res.act hlj)) (by simp)
          obtain ⟨v1, w3, hrun, ho, hb⟩ := run_app1 wr w.heap.size _ _ (e.action.getD j 0) HO.out (by have := HPL.out; simp only [List.length_append, List.length_take, e.ha]; omega) HB.out.size
          rw [List.append_assoc, ← take_snoc' e.action 0 j (by rw [e.ha]; exact hlj)] at ho
          have H3 : Hid (OwnB w3 w.heap.size v1 (P ++ e.action.take (j + 1)) ∧ Below w.heap.size w w3) := ⟨ho, HB.out.trans hb⟩
          clear ho hb
          generalize (e.action.getD j 0).toNat = c at cc hrun
          go_wp2_with (refine wpList_app_run rfl (.tmp 26) (.tmp 34) 25 25 rfl u5 (.slice (some ⟨wr.heap.size, 0, none⟩) 1 1) rfl rfl v1 w3 hrun ?_)
          go_roundw
          case rel => exact ⟨j + 1, by omega, by go_num, H3.out.1, H3.out.2⟩
          case measure => simp [intOf]; omega
        · have HO1 : Hid (OwnB wr w.heap.size u5 (P ++ e.action)) := by
            have := HO.out
            rw [List.take_of_length_le (by rw [e.ha]; omega)] at this
            exact this
          have HPL2 : Hid ((P ++ e.action).length ≤ 3032) := by have := HPL.out; show _ ≤ _; simp only [List.length_append, e.ha]; omega
          have HFP2 : Hid (UInt8.ofNat n :: (L.take (k + 1)).flatMap Tb.encE = (P ++ e.action) ++ e.root ++ [UInt8.ofNat e.code.toNat]) := by show _ = _; rw [HFP.out]; simp [Tb.encE]
          clear HO HPL HFP
          generalize P ++ e.action = P2 at HO1 HPL2 HFP2
          go_wp2
          go_loopw [5, 8] (fun x y wr => ∃ j : Nat, j ≤ 32 ∧ y = .int .i64 j ∧ Hid (OwnB wr w.heap.size x (P2 ++ e.root.take j)) ∧ Hid (Below w.heap.size w wr)) (fun x y wr => 32 - (intOf y).toNat)
          case atStart => exact ⟨0, Nat.zero_le _, rfl, by show OwnB _ _ _ _; simpa using HO1.out, HB.out⟩
          case round =>
            clear HO1 HB
            obtain ⟨j, hj, rfl, HO, HB⟩ := hrel
            by_cases hlj : j < 32
            · have cc : wr.cell? ⟨b, off + k * 65 + 32 + j, none⟩ = some (.int .u8 (e.root.getD j 0).toNat) := by
                have := (Kept.of_below HB.out).cellOf (HR.out (32 + j) _ (Res.roo hlj)) (by simp)
                rwa [← Nat.add_assoc] at this
              obtain ⟨v1, w3, hrun, ho, hb⟩ := run_app1 wr w.heap.size _ _ (e.root.getD j 0) HO.out (by have := HPL2.out; simp only [List.length_append, List.length_take, e.hr]; omega) HB.out.size
              rw [List.append_assoc, ← take_snoc' e.root 0 j (by rw [e.hr]; exact hlj)] at ho
              have H3 : Hid (OwnB w3 w.heap.size v1 (P2 ++ e.root.take (j + 1)) ∧ Below w.heap.size w w3) := ⟨ho, HB.out.trans hb⟩
              clear ho hb
              generalize (e.root.getD j 0).toNat = c at cc hrun
              go_wp2_with (refine wpList_app_run rfl (.tmp 40) (.tmp 48) 25 25 rfl u5 (.slice (some ⟨wr.heap.size, 0, none⟩) 1 1) rfl rfl v1 w3 hrun ?_)
              go_roundw
              case rel => exact ⟨j + 1, by omega, by go_num, H3.out.1, H3.out.2⟩
              case measure => simp [intOf]; omega
            · have HO1 : Hid (OwnB wr w.heap.size u5 (P2 ++ e.root)) := by
                have := HO.out
                rw [List.take_of_length_le (by rw [e.hr]; omega)] at this
                exact this
              obtain ⟨cd, hcd⟩ : ∃ cd : Nat, e.code = cd := ⟨e.code.toNat, by have := HC.out; omega⟩
              have cc := (Kept.of_below HB.out).cellOf (HR.out 64 _ (Res.cod e)) (by simp)
              rw [hcd] at cc
              have hcw : IntKind.u8.wrap (cd : Int) = cd := by have := HC.out; rw [hcd] at this; rw [IntKind.wrap_u8]; omega
              obtain ⟨v1, w3, hrun, ho, hb⟩ := run_app1 wr w.heap.size _ _ (UInt8.ofNat cd) HO1.out (by have := HPL2.out; simp only [List.length_append, e.hr] at *; omega) HB.out.size
              have e1 : ((UInt8.ofNat cd).toNat : Int) = cd := by have := HC.out; rw [hcd] at this; rw [UInt8.toNat_ofNat', Nat.mod_eq_of_lt (by omega)]
              rw [e1] at hrun
              have H3 : Hid (OwnB w3 w.heap.size v1 (UInt8.ofNat n :: (L.take (k + 1)).flatMap Tb.encE) ∧ Below w.heap.size w w3) := ⟨by rw [HFP2.out, hcd]; exact ho, HB.out.trans hb⟩
              clear ho hb e1 hcd HO HO1
              go_wp2_with (refine wpList_app_run rfl (.tmp 50) (.tmp 57) 25 25 rfl u5 (.slice (some ⟨wr.heap.size, 0, none⟩) 1 1) rfl rfl v1 w3 hrun ?_)
              go_roundw
              case rel => exact ⟨k + 1, by omega, by go_num, H3.out.1, H3.out.2⟩
              case measure => simp [intOf]; omega
    · obtain rfl : k = n := by omega
      have ho := HO.out
      rw [List.take_of_length_le (by rw [HN.out]; exact Nat.le_refl _)] at ho
      have HO2 : Hid (OwnB wr w.heap.size u5 (Tb.encT L)) := by show OwnB _ _ _ _; unfold Tb.encT; rw [HN.out]; exact ho
      clear ho HO
      go_wp2
      go_ret2
      exact ⟨⟨_, rfl, HO2.out⟩, HB.out⟩
theorem refencode_ok (ao : Option Addr) (n cap : Nat) (L : List Res) (w : World) (hn : L.length = n) (hm : n ≤ 4611686018427387904) (hL : Ress w ao L) :
    Calls Try.prog 11 #[.slice ao n cap] w fun r w' => Told w w' r (Tb.valid L) (Tb.encd L) := by
  unfold Tb.encd
  cases ht : Tb.valid L with
  | false => exact refencode_no ao n cap L w hn hm hL ht
  | true => exact refencode_yes ao n cap L w hn hL ht
end Go.Proofs.Ytdeneflgldagpaa
