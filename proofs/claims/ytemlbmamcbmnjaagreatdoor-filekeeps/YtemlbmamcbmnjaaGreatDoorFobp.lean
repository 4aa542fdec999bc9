/-
  freightlaw6: rows of bytes, lists of files; a name among files.
-/
import Derived.Test.YtemlbmamcbmnjaaGreatDoorId1p
namespace Go.Proofs.YtemlbmamcbmnjaaGreatDoor
open Go.RowKit Dsk
set_option linter.unusedVariables false
set_option linter.unusedSimpArgs false

set_option maxHeartbeats 800000 in
set_option maxRecDepth 100000 in
theorem same_some (b1 o1 c1 b2 o2 c2 n : Nat) (xs ys : List UInt8) (w : World) (hx : xs.length = n) (hy : ys.length = n) (hm : n ≤ 4611686018427387904)
    (h1 : ∀ i, i < xs.length → w.cell? ⟨b1, o1 + i, none⟩ = some (.int .u8 (xs.getD i 0).toNat)) (h2 : ∀ i, i < ys.length → w.cell? ⟨b2, o2 + i, none⟩ = some (.int .u8 (ys.getD i 0).toNat)) :
    Calls Tryz.prog 22 #[.slice (some ⟨b1, o1, none⟩) n c1, .slice (some ⟨b2, o2, none⟩) n c2] w fun e w' => e = .returned (.bool (decide (xs = ys))) ∧ ∃ k, w' = w.drewN k := by
  go_enter Tryz.func22, Tryz.ntmps22
  go_wp2
  go_loopw [5] (fun i wr => ∃ k : Nat, k ≤ n ∧ i = .int .i64 k ∧ xs.take k = ys.take k ∧ ∃ j, wr = w.drewN j) (fun i wr => n - (intOf i).toNat)
  case atStart => exact ⟨0, Nat.zero_le _, rfl, by simp, 0, rfl⟩
  case round =>
    obtain ⟨k, hk, rfl, heq, j, hwr⟩ := hrel
    subst hwr
    have HE : Hid (xs.take k = ys.take k) := heq
    clear heq
    by_cases hlt : k < n
    · have e1 := h1 k (by omega)
      have e2 := h2 k (by omega)
      have hc1 : (xs.getD k 0).toNat < 256 := UInt8.toNat_lt _
      have hc2 : (ys.getD k 0).toNat < 256 := UInt8.toNat_lt _
      by_cases hcc : xs.getD k 0 = ys.getD k 0
      · have hcn : (((xs.getD k 0).toNat : Int) != ((ys.getD k 0).toNat : Int)) = false := by rw [hcc]; simp
        have HC : Hid (xs.getD k 0 = ys.getD k 0) := hcc
        clear hcc h1 h2
        generalize (xs.getD k 0).toNat = c at e1 hcn hc1
        generalize (ys.getD k 0).toNat = d at e2 hcn hc2
        go_wp2
        go_quiet (fail)
        go_wp2
        go_roundw
        case rel => exact ⟨k + 1, by omega, by go_num, by rw [take_snoc' xs 0 k (by omega), take_snoc' ys 0 k (by omega), HE.out, HC.out], _, rfl⟩
        case measure => simp [intOf]; omega
      · have hcn : (((xs.getD k 0).toNat : Int) != ((ys.getD k 0).toNat : Int)) = true := by
          simp only [bne_iff_ne, ne_eq]
          intro h
          exact hcc (UInt8.toNat_inj.1 (by omega))
        have hfin : Hid (decide (xs = ys) = false) := by
          show _ = _
          simp only [decide_eq_false_iff_not]
          rintro rfl
          exact hcc rfl
        clear hcc h1 h2
        generalize (xs.getD k 0).toNat = c at e1 hcn hc1
        generalize (ys.getD k 0).toNat = d at e2 hcn hc2
        go_wp2
        go_quiet (fail)
        go_wp2
        go_ret
        exact ⟨by rw [hfin.out]; rfl, j + nq, by simp⟩
    · have hfin : Hid (decide (xs = ys) = true) := by
        have := HE.out
        rw [List.take_of_length_le (by omega), List.take_of_length_le (by omega)] at this
        show _ = _
        simpa using this
      clear h1 h2
      go_wp2
      go_ret
      exact ⟨by rw [hfin.out]; rfl, j, rfl⟩

set_option maxHeartbeats 800000 in
set_option maxRecDepth 100000 in
theorem same_len (a1 a2 : Option Addr) (n1 c1 n2 c2 : Nat) (w : World) (hn : n1 ≠ n2) :
    Calls Tryz.prog 22 #[.slice a1 n1 c1, .slice a2 n2 c2] w fun e w' => e = .returned (.bool false) ∧ w' = w := by
  have h : ((n1 : Int) != (n2 : Int)) = true := by simp; omega
  go_enter Tryz.func22, Tryz.ntmps22
  go_wp2
  go_ret
  exact ⟨rfl, rfl⟩

set_option maxHeartbeats 800000 in
set_option maxRecDepth 100000 in
theorem same_none (a1 a2 : Option Addr) (c1 c2 : Nat) (w : World) :
    Calls Tryz.prog 22 #[.slice a1 0 c1, .slice a2 0 c2] w fun e w' => e = .returned (.bool true) ∧ w' = w := by
  go_enter Tryz.func22, Tryz.ntmps22
  go_wp2
  go_loop [5] (fun i => i = .int .i64 0) (fun i => 0)
  case atStart => rfl
  case round =>
    subst hrel
    go_wp2
    go_ret
    exact ⟨rfl, rfl⟩

/-- freightlaw6.same: are two rows of bytes alike? -/
theorem same_any (a1 a2 : Option Addr) (n1 c1 n2 c2 : Nat) (xs ys : List UInt8) (w : World) (hx : xs.length = n1) (hy : ys.length = n2) (hm : n1 ≤ 4611686018427387904) (h1 : Sl w a1 xs) (h2 : Sl w a2 ys) :
    Calls Tryz.prog 22 #[.slice a1 n1 c1, .slice a2 n2 c2] w fun e w' => e = .returned (.bool (decide (xs = ys))) ∧ ∃ k, w' = w.drewN k := by
  by_cases hn : n1 = n2
  · subst hn
    by_cases h0 : xs = []
    · subst h0
      obtain rfl : ys = [] := List.eq_nil_of_length_eq_zero (by rw [hy, ← hx]; rfl)
      obtain rfl : n1 = 0 := by simpa using hx.symm
      exact (same_none a1 a2 c1 c2 w).mono fun e w' ⟨he, hw⟩ => ⟨he, 0, hw⟩
    · have h0' : ys ≠ [] := fun h => h0 (List.eq_nil_of_length_eq_zero (by rw [hx, ← hy, h]; rfl))
      obtain ⟨b1, o1, rfl, _, hc1⟩ := h1.open h0
      obtain ⟨b2, o2, rfl, _, hc2⟩ := h2.open h0'
      exact same_some b1 o1 c1 b2 o2 c2 n1 xs ys w hx hy hm hc1 hc2
  · refine (same_len a1 a2 n1 c1 n2 c2 w hn).mono fun e w' ⟨he, hw⟩ => ⟨?_, 0, hw⟩
    rw [he]
    have : decide (xs = ys) = false := by
      simp only [decide_eq_false_iff_not]
      rintro rfl
      exact hn (hx.symm.trans hy)
    rw [this]



theorem same_yes (a1 a2 : Option Addr) (n c1 c2 : Nat) (xs : List UInt8) (w : World) (hx : xs.length = n) (hm : n ≤ 4611686018427387904) (h1 : Sl w a1 xs) (h2 : Sl w a2 xs) :
    Calls Tryz.prog 22 #[.slice a1 n c1, .slice a2 n c2] w fun e w' => e = .returned (.bool true) ∧ ∃ k, w' = w.drewN k := by
  have := same_any a1 a2 n c1 n c2 xs xs w hx hx hm h1 h2
  rw [show decide (xs = xs) = true from by simp] at this
  exact this

set_option maxHeartbeats 800000 in
set_option maxRecDepth 100000 in
theorem files6_yes (a1 a2 : Option Addr) (n c1 c2 : Nat) (L : List (By × By)) (w : World) (hx : L.length = n) (hm : n ≤ 4611686018427387904) (hM : ∀ f ∈ L, f.2.length ≤ 4611686018427387904) (h1 : Fis w a1 L) (h2 : Fis w a2 L) :
    Calls Tryz.prog 20 #[.slice a1 n c1, .slice a2 n c2] w fun e w' => e = .returned (.bool true) ∧ ∃ k, w' = w.drewN k := by
  have HX := hide hx
  clear hx
  go_enter Tryz.func20, Tryz.ntmps20
  go_wp2
  go_loopw [5] (fun i wr => ∃ k : Nat, k ≤ n ∧ i = .int .i64 k ∧ ∃ j, wr = w.drewN j) (fun i wr => n - (intOf i).toNat)
  case atStart => exact ⟨0, Nat.zero_le _, rfl, 0, rfl⟩
  case round =>
    obtain ⟨k, hk, rfl, j, hwr⟩ := hrel
    have HW := hide hwr
    have hkw : Kept [] w wr := by rw [hwr]; exact (Kept.refl [] w).drewN _
    clear hwr
    by_cases hlt : k < n
    · obtain ⟨b1, rfl, s, hs, e1, bo1, bc1, e2, s1⟩ := h1 k (by rw [HX.out]; exact hlt)
      obtain ⟨b2, rfl, s', hs', d1, bo2, bc2, d2, s2⟩ := h2 k (by rw [HX.out]; exact hlt)
      rw [hs] at hs'
      cases hs'
      replace e1 := hkw.cellOf e1 (by simp)
      replace e2 := hkw.cellOf e2 (by simp)
      replace d1 := hkw.cellOf d1 (by simp)
      replace d2 := hkw.cellOf d2 (by simp)
      have hb : Hid (∀ v, Kept [] wr v → Calls Tryz.prog 22 #[.slice bo1 s.2.length bc1, .slice bo2 s.2.length bc2] v fun e w' => e = .returned (.bool true) ∧ ∃ k, w' = v.drewN k) := fun v hv => same_yes bo1 bo2 s.2.length bc1 bc2 s.2 v rfl (hM s (List.mem_of_getElem? hs)) (s1.kept (hkw.trans hv (by simp)) (by simp)) (s2.kept (hkw.trans hv (by simp)) (by simp))
      generalize s.1 = x at e1 d1
      generalize s.2.length = z at e2 d2 hb
      have HM : Hid (∀ f ∈ L, f.2.length ≤ 4611686018427387904) := hM
      clear h1 h2 hs s1 s2 s hM hkw
      go_wp2
      go_quiet ((go_at_call 22; exact Calls.quiet_of (hb.out _ ((Kept.refl [] wr).drewN _))))
      go_wp2
      go_roundw
      case rel => exact ⟨k + 1, by omega, by go_num, j + nq, by rw [HW.out]; simp⟩
      case measure => simp [intOf]; omega
    · clear h1 h2
      go_wp2
      go_ret
      exact ⟨rfl, j, HW.out⟩


/-- The place of a name among files. -/
def fpos : List (By × By) → By → Nat → Int
  | [], _, _ => -1
  | f :: r, n, i => if f.1 = n then (i : Int) else fpos r n (i + 1)
theorem fpos_drop (L : List (By × By)) (n : By) (k : Nat) (f : By × By) (h : L[k]? = some f) : fpos (L.drop k) n k = if f.1 = n then (k : Int) else fpos (L.drop (k + 1)) n (k + 1) := by
  have hk : k < L.length := (List.getElem?_eq_some_iff.1 h).1
  have e : L[k] = f := (List.getElem?_eq_some_iff.1 h).2
  rw [List.drop_eq_getElem_cons hk, e]
  rfl

set_option maxHeartbeats 800000 in
set_option maxRecDepth 100000 in
theorem at_ok (ao : Option Addr) (n c : Nat) (L : List (By × By)) (nm : By) (w : World) (hx : L.length = n) (hm : n ≤ 4611686018427387904) (h1 : Fis w ao L) :
    Calls Tryz.prog 60 #[.slice ao n c, encStr nm] w fun e w' => e = .returned (.int .i64 (fpos L nm 0)) ∧ ∃ k, w' = w.drewN k := by
  have HX := hide hx
  clear hx
  go_enter Tryz.func60, Tryz.ntmps60
  go_wp2
  go_loopw [5] (fun i wr => ∃ k : Nat, k ≤ n ∧ i = .int .i64 k ∧ fpos L nm 0 = fpos (L.drop k) nm k ∧ ∃ j, wr = w.drewN j) (fun i wr => n - (intOf i).toNat)
  case atStart => exact ⟨0, Nat.zero_le _, rfl, rfl, 0, rfl⟩
  case round =>
    obtain ⟨k, hk, rfl, hf, j, hwr⟩ := hrel
    have HW := hide hwr
    have hkw : Kept [] w wr := by rw [hwr]; exact (Kept.refl [] w).drewN _
    clear hwr
    have HF := hide hf
    clear hf
    by_cases hlt : k < n
    · obtain ⟨b1, rfl, s, hs, e1, bo1, bc1, e2, s1⟩ := h1 k (by rw [HX.out]; exact hlt)
      replace e1 := hkw.cellOf e1 (by simp)
      have HD := hide (fpos_drop L nm k s hs)
      clear e2 s1 hs hkw h1
      by_cases he : s.1 = nm
      · have HE := hide he
        rw [he] at e1
        clear he
        go_wp2
        go_ret
        exact ⟨by rw [HF.out, HD.out, if_pos HE.out]; rfl, j, HW.out⟩
      · have hb : (s.1 == nm) = false := by simpa using he
        have HE := hide he
        generalize s.1 = x at e1 hb HE HD he
        clear he
        go_wp2
        go_roundw
        case rel => exact ⟨k + 1, by omega, by go_num, by rw [HF.out, HD.out, if_neg HE.out], j, HW.out⟩
        case measure => simp [intOf]; omega
    · have HD : Hid (fpos (L.drop k) nm k = -1) := by
        show _ = _
        rw [List.drop_of_length_le (by rw [HX.out]; omega)]
        rfl
      clear h1 hkw
      go_wp2
      go_ret
      exact ⟨by rw [HF.out, HD.out]; rfl, j, HW.out⟩

theorem fpos_find (L : List (By × By)) (nm : By) (i : Nat) : (fpos L nm i = -1 ∧ L.find? (fun f => f.1 == nm) = none) ∨ ∃ j f, fpos L nm i = ((i + j : Nat) : Int) ∧ L[j]? = some f ∧ L.find? (fun f => f.1 == nm) = some f ∧ f.1 = nm := by
  induction L generalizing i with
  | nil => exact .inl ⟨rfl, rfl⟩
  | cons x r ih =>
    by_cases h : x.1 = nm
    · exact .inr ⟨0, x, by simp [fpos, h], rfl, by simp [List.find?_cons, h], h⟩
    · have hb : (x.1 == nm) = false := by simpa using h
      rcases ih (i + 1) with ⟨h1, h2⟩ | ⟨j, f, h1, h2, h3, h4⟩
      · exact .inl ⟨by simp only [fpos, if_neg h, h1], by rw [List.find?_cons, hb]; exact h2⟩
      · exact .inr ⟨j + 1, f, by simp only [fpos, if_neg h, h1]; congr 1; omega, h2, by rw [List.find?_cons, hb]; exact h3, h4⟩

/-- What `under` answers. -/
def Und (w : World) (L : List (By × By)) (nm : By) (v : Value) (b : Bool) : Prop :=
  (L.find? (fun f => f.1 == nm) = none ∧ v = .slice none 0 0 ∧ b = false) ∨ ∃ f bo bc, L.find? (fun f => f.1 == nm) = some f ∧ f.1 = nm ∧ v = .slice bo f.2.length bc ∧ Sl w bo f.2 ∧ b = true

set_option maxHeartbeats 800000 in
set_option maxRecDepth 100000 in
theorem under_ok (ao : Option Addr) (n c : Nat) (L : List (By × By)) (nm : By) (w : World) (hx : L.length = n) (hm : n ≤ 4611686018427387904) (h1 : Fis w ao L) :
    Calls Tryz.prog 14 #[.slice ao n c, encStr nm] w fun e w' => ∃ v b, e = .returned (.tuple #[v, .bool b]) ∧ Und w L nm v b ∧ ∃ k, w' = w.drewN k := by
  have hat := at_ok ao n c L nm w hx hm h1
  rcases fpos_find L nm 0 with ⟨hp, hfi⟩ | ⟨j, f, hp, hj, hfi, hnm⟩
  · rw [hp] at hat
    have HF := hide hfi
    clear hfi hp h1 hx
    go_enter Tryz.func14, Tryz.ntmps14
    go_wp2_with (go_at_call 60; refine hat.mono ?_; rintro e w1 ⟨rfl, hw1⟩; have HW := hide hw1; clear hat hw1)
    go_ret2
    exact ⟨_, _, rfl, .inl ⟨HF.out, rfl, rfl⟩, HW.out⟩
  · rw [hp] at hat
    have hjn : j < n := by rw [← hx]; exact (List.getElem?_eq_some_iff.1 hj).1
    obtain ⟨b1, rfl, s, hs, e1, bo1, bc1, e2, s1⟩ := h1 j (by rw [hx]; exact hjn)
    rw [hj] at hs
    cases hs
    have HF := hide (show L.find? (fun f => f.1 == nm) = some f ∧ f.1 = nm ∧ Sl w bo1 f.2 from ⟨hfi, hnm, s1⟩)
    have HC : Hid (∀ k : Nat, (w.drewN k).cell? ⟨b1, j * 2 + 1, none⟩ = some (.slice bo1 f.2.length bc1)) := hide (fun k => ((Kept.refl [] w).drewN k).cellOf e2 (by simp))
    rw [Nat.zero_add] at hat
    clear hfi hp h1 hx e1 e2 s1 hj hnm
    obtain ⟨z, hz⟩ : ∃ z, f.2.length = z := ⟨_, rfl⟩
    rw [hz] at HC
    have HZ := hide hz
    clear hz
    go_enter Tryz.func14, Tryz.ntmps14
    go_upto_region 4 with (go_at_call 60; refine hat.mono ?_; rintro e w1 ⟨rfl, hw1⟩; obtain ⟨k, hw1⟩ := hw1; have HW := hide (show ∃ k, w1 = w.drewN k from ⟨k, hw1⟩); have e2 := HC.out k; rw [← hw1] at e2; clear hat hw1)
    go_wp2
    go_ret2
    exact ⟨_, _, rfl, .inr ⟨f, bo1, bc1, HF.out.1, HF.out.2.1, by rw [HZ.out]; rfl, HF.out.2.2, rfl⟩, HW.out⟩
end Go.Proofs.YtemlbmamcbmnjaaGreatDoor
