/-
  Contract: the statements' own long.
-/
import Derived.Test.YtjmameknbnflaabArgs
import Derived.Test.YtjmameknbnflaabPure
namespace Go.Proofs.Ytjmameknbnflaab
open Go.RowKit
set_option linter.unusedVariables false
set_option linter.unusedSimpArgs false

/-- The bytes of a script's calls. -/
def vol (L : List Cl) : Nat := (L.map (fun c => c.ds.length)).sum
theorem vol_snoc (L : List Cl) (c : Cl) : vol (L ++ [c]) = vol L + c.ds.length := by simp [vol]
theorem vol_mem {L : List Cl} {c : Cl} (h : c ∈ L) : c.ds.length ≤ vol L := by
  induction L with
  | nil => simp at h
  | cons d L ih =>
    simp only [List.mem_cons] at h
    rcases h with rfl | h
    · simp [vol]
    · have := ih h
      simp only [vol, List.map_cons, List.sum_cons] at this ⊢
      omega
theorem vol_at {L : List Cl} {i : Nat} (h : i < L.length) : (L.getD i cl0).ds.length ≤ vol L := vol_mem (by simp [List.getElem?_eq_getElem h])

/-- A script that is played. -/
def Short (L : List Cl) : Prop := L.length ≤ 200 ∧ vol L ≤ 200000

/-- What long answers. -/
def LongEnd (L : List Cl) (e : Ending) : Prop := e = .returned (.bool true) ∨ (e = .returned (.bool false) ∧ Short L)

set_option maxHeartbeats 1600000 in
set_option maxRecDepth 100000 in
theorem long_some (b off n cap : Nat) (L : List Cl) (w : World) (hn : L.length = n) (hm : n ≤ 9223372036854775807) (h : ∀ i, i < L.length → ClAt w b (off + 4 * i) (L.getD i cl0)) :
    Calls Try.prog 7 #[.slice (some ⟨b, off, none⟩) n cap] w fun e w' => LongEnd L e ∧ w' = w := by
  by_cases h200 : 200 < n
  · clear h
    go_enter Try.func7, Try.ntmps7
    go_wp2
    go_ret
    exact ⟨Or.inl rfl, rfl⟩
  · have HN : Hid (L.length = n) := hn
    clear hn
    go_enter Try.func7, Try.ntmps7
    go_wp2
    go_loop [3, 4] (fun x y => ∃ k v : Nat, k ≤ n ∧ y = .int .i64 k ∧ x = .int .i64 v ∧ v ≤ 200000 ∧ Hid (v = vol (L.take k))) (fun x y => n - (intOf y).toNat)
    case atStart => exact ⟨0, 0, Nat.zero_le _, rfl, rfl, by omega, by simp [Hid, vol]⟩
    case round =>
      obtain ⟨k, v, hk, rfl, rfl, hv, HV⟩ := hrel
      by_cases hlt : k < n
      · have hcl := h k (by rw [HN.out]; exact hlt)
        have hc3 := hcl.c3
        have hdl := hcl.inb.len
        have hdm := hcl.inb.max
        have hdc := hcl.inb.le
        have HV2 : Hid (vol (L.take (k + 1)) = v + (L.getD k cl0).dn) := by
          show _ = _
          rw [Pure.take_snoc L cl0 k (by rw [HN.out]; exact hlt), vol_snoc, ← HV.out, hdl]
        generalize (L.getD k cl0).dn = dn at hc3 hdm hdc HV2
        generalize (L.getD k cl0).da = da at hc3
        generalize (L.getD k cl0).dc = dc at hc3 hdm hdc
        have hc3' : w.cell? ⟨b, off + k * 4 + 3, none⟩ = some (.slice da dn dc) := by rw [Nat.mul_comm]; exact hc3
        clear h hcl hdl
        by_cases hbig : 200000 < v + dn
        · go_wp2
          go_ret
          exact ⟨Or.inl rfl, rfl⟩
        · go_wp2
          go_round
          case rel => exact ⟨k + 1, v + dn, by omega, by go_num, by go_num, by omega, HV2.out.symm⟩
          case measure => simp [intOf]; omega
      · have hfin : Hid (Short L) := by
          have := HV.out
          rw [List.take_of_length_le (by rw [HN.out]; omega)] at this
          exact ⟨by rw [HN.out]; omega, by omega⟩
        clear h
        go_wp2
        go_ret
        exact ⟨Or.inr ⟨rfl, hfin.out⟩, rfl⟩

set_option maxHeartbeats 1600000 in
set_option maxRecDepth 100000 in
theorem long_none (ao : Option Addr) (cap : Nat) (w : World) :
    Calls Try.prog 7 #[.slice ao 0 cap] w fun e w' => e = .returned (.bool false) ∧ w' = w := by
  go_enter Try.func7, Try.ntmps7
  go_wp2
  go_loop [3, 4] (fun x y => y = .int .i64 0 ∧ x = .int .i64 0) (fun x y => 0)
  case atStart => exact ⟨rfl, rfl⟩
  case round =>
    obtain ⟨rfl, rfl⟩ := hrel
    go_wp2
    go_ret
    exact ⟨rfl, rfl⟩

theorem Scr.open {w : World} {ao : Option Addr} {L : List Cl} (h : Scr w ao L) (hn : L ≠ []) : ∃ b off, ao = some ⟨b, off, none⟩ ∧ b < w.heap.size ∧ ∀ i, i < L.length → ClAt w b (off + 4 * i) (L.getD i cl0) := by
  obtain ⟨b, off, e, hc⟩ := h 0 (List.length_pos_iff.2 hn)
  refine ⟨b, off, e, World.block_lt_of_cell? _ _ hc.c0, fun i hi => ?_⟩
  obtain ⟨b', off', e', hc'⟩ := h i hi
  rw [e] at e'
  cases e'
  exact hc'

/-- long: a script that is not too long is one that is played. -/
theorem long_any (ao : Option Addr) (n cap : Nat) (L : List Cl) (w : World) (hn : L.length = n) (hm : n ≤ 9223372036854775807) (h : Scr w ao L) :
    Calls Try.prog 7 #[.slice ao n cap] w fun e w' => LongEnd L e ∧ w' = w := by
  by_cases h0 : L = []
  · subst h0
    obtain rfl : n = 0 := by simpa using hn.symm
    exact (long_none ao cap w).mono fun e w' ⟨he, hw⟩ => ⟨Or.inr ⟨he, by simp, by simp [vol]⟩, hw⟩
  · obtain ⟨b, off, rfl, _, hc⟩ := h.open h0
    exact long_some b off n cap L w hn hm hc

/-- What came in stays as it was while only new blocks are written. -/
theorem InB.kept {B : Nat} {w w' : World} {ao : Option Addr} {n cap : Nat} {xs : List UInt8} (h : InB w ao n cap xs) (hb : Below w.heap.size w w') : InB w' ao n cap xs :=
  ⟨h.len, h.le, h.max, h.sl.kept (Kept.of_below hb) (by simp), h.nil, h.spot⟩
theorem ClAt.kept {w w' : World} {b off : Nat} {c : Cl} (h : ClAt w b off c) (hb : Below w.heap.size w w') : ClAt w' b off c := by
  have hk := Kept.of_below hb
  exact ⟨hk.cellOf h.c0 (by simp), hk.cellOf h.c1 (by simp), hk.cellOf h.c2 (by simp), hk.cellOf h.c3 (by simp), h.inb.kept (B := 0) hb, h.wk, h.wv, h.ww⟩

end Go.Proofs.Ytjmameknbnflaab
