import Derived.Test.YteckiednnaianaaGreatHpp
import Derived.Laws.AppendOwnNone
import Derived.Deep.QuietTactic
import Derived.BigQuiet
import Derived.WalkArith
import Derived.Deep.OwnRows
namespace Go.Proofs.YteckiednnaianaaGreat
section
open Go.RowKit Dsk
set_option linter.unusedVariables false
set_option linter.unusedSimpArgs false
/-! ### long -/
def Stp.cost (s : Stp) : Nat := s.dn + 8 * s.pn
def costs (L : List Stp) : Nat := (L.map Stp.cost).sum
theorem costs_snoc (L : List Stp) (c : Stp) : costs (L ++ [c]) = costs L + c.cost := by simp [costs]
theorem stp_snoc (L : List Stp) (k : Nat) (h : k < L.length) : L.take (k + 1) = L.take k ++ [L.getD k stp0] := by
 rw [List.take_succ_eq_append_getElem h]
 simp [List.getElem?_eq_getElem h]
def ShortS (L : List Stp) : Prop := L.length ≤ 300 ∧ costs L ≤ 100000
def LongEndS (L : List Stp) (e : Ending) : Prop := e = .returned (.bool true) ∨ (e = .returned (.bool false) ∧ ShortS L)
set_option maxHeartbeats 1600000 in
set_option maxRecDepth 100000 in
theorem long_some (b off n cap : Nat) (L : List Stp) (w : World) (hn : L.length = n) (hm : n ≤ 9223372036854775807) (h : ∀ i, i < L.length → (∀ j v, (L.getD i stp0).cells[j]? = some v → w.cell? ⟨b, off + 10 * i + j, none⟩ = some v) ∧ StpIn w (L.getD i stp0)) :
  Calls Tryz.prog 4 #[.slice (some ⟨b, off, none⟩) n cap] w fun e w' => LongEndS L e ∧ Kept [] w w' := by
 by_cases h300 : 300 < n
 ·clear h
  go_enter Tryz.func4, Tryz.ntmps4
  go_wp2
  go_ret
  exact ⟨Or.inl rfl, Kept.refl _ _⟩
 ·have HN : Hid (L.length = n) := hn
  clear hn
  go_enter Tryz.func4, Tryz.ntmps4
  go_wp2
  go_loopw [3, 4] (fun x y wr => ∃ k v : Nat, k ≤ n ∧ y = .int .i64 k ∧ x = .int .i64 v ∧ v ≤ 100000 ∧ Hid (v = costs (L.take k)) ∧ ∃ j, wr = w.drewN j) (fun x y wr => n - (intOf y).toNat)
  case atStart => exact ⟨0, 0, Nat.zero_le _, rfl, rfl, by omega, by simp [Hid, costs], 0, rfl⟩
  case round =>
   obtain ⟨k, v, hk, rfl, rfl, hv, HV, j, hwr⟩ := hrel
   subst hwr
   by_cases hlt : k < n
   ·obtain ⟨hcl, hin⟩ := h k (by rw [HN.out]; exact hlt)
    have hdm := hin.inb.max
    have hdc := hin.inb.le
    have hpm := hin.pm
    have HV2 : Hid (costs (L.take (k + 1)) = v + ((L.getD k stp0).dn + 8 * (L.getD k stp0).pn)) := by
     show _ = _
     rw [stp_snoc L k (by rw [HN.out]; exact hlt), costs_snoc, ← HV.out]
     rfl
    have hc5 := hcl 5 _ rfl
    have hc9 := hcl 9 _ rfl
    generalize (L.getD k stp0).dn = dn at hc5 hdm hdc HV2
    generalize (L.getD k stp0).da = da at hc5
    generalize (L.getD k stp0).dc = dc at hc5 hdm hdc
    generalize (L.getD k stp0).pn = pn at hc9 hpm HV2
    generalize (L.getD k stp0).pa = pa at hc9
    generalize (L.getD k stp0).pc = pc at hc9
    have hc5' : w.cell? ⟨b, off + k * 10 + 5, none⟩ = some (.slice da dn dc) := by rw [Nat.mul_comm]; exact hc5
    have hc9' : w.cell? ⟨b, off + k * 10 + 9, none⟩ = some (.slice pa pn pc) := by rw [Nat.mul_comm]; exact hc9
    clear h hcl hin hc5 hc9
    by_cases hbig : 100000 < v + (dn + 8 * pn)
    ·go_wp2
     go_quiet (fail)
     go_wp2
     go_ret
     exact ⟨Or.inl rfl, (Kept.refl [] w).drewN _⟩
    ·go_wp2
     go_quiet (fail)
     go_wp2
     go_roundw
     case rel => exact ⟨k + 1, v + (dn + 8 * pn), by omega, by go_num, by go_num, by omega, HV2.out.symm, _, rfl⟩
     case measure => simp [intOf]; omega
   ·have hfin : Hid (ShortS L) := by
     have := HV.out
     rw [List.take_of_length_le (by rw [HN.out]; omega)] at this
     exact ⟨by rw [HN.out]; omega, by omega⟩
    clear h
    go_wp2
    go_ret
    exact ⟨Or.inr ⟨rfl, hfin.out⟩, (Kept.refl [] w).drewN _⟩
set_option maxHeartbeats 1600000 in
set_option maxRecDepth 100000 in
theorem long_none (ao : Option Addr) (cap : Nat) (w : World) :
  Calls Tryz.prog 4 #[.slice ao 0 cap] w fun e w' => e = .returned (.bool false) ∧ w' = w := by
 go_enter Tryz.func4, Tryz.ntmps4
 go_wp2
 go_loop [3, 4] (fun x y => y = .int .i64 0 ∧ x = .int .i64 0) (fun x y => 0)
 case atStart => exact ⟨rfl, rfl⟩
 case round =>
  obtain ⟨rfl, rfl⟩ := hrel
  go_wp2
  go_ret
  exact ⟨rfl, rfl⟩
theorem Scr.open {w : World} {ao : Option Addr} {L : List Stp} (h : Scr w ao L) (hn : L ≠ []) : ∃ b off, ao = some ⟨b, off, none⟩ ∧ b < w.heap.size ∧ ∀ i, i < L.length → (∀ j v, (L.getD i stp0).cells[j]? = some v → w.cell? ⟨b, off + 10 * i + j, none⟩ = some v) ∧ StpIn w (L.getD i stp0) := by
 obtain ⟨b, off, e, hc, _⟩ := h 0 (List.length_pos_iff.2 hn)
 refine ⟨b, off, e, World.block_lt_of_cell? _ _ (hc 0 _ rfl), fun i hi => ?_⟩
 obtain ⟨b', off', e', hc'⟩ := h i hi
 rw [e] at e'
 cases e'
 exact hc'
theorem long_any (ao : Option Addr) (n cap : Nat) (L : List Stp) (w : World) (hn : L.length = n) (hm : n ≤ 9223372036854775807) (h : Scr w ao L) :
  Calls Tryz.prog 4 #[.slice ao n cap] w fun e w' => LongEndS L e ∧ Kept [] w w' := by
 by_cases h0 : L = []
 ·subst h0
  obtain rfl : n = 0 := by simpa using hn.symm
  refine (long_none ao cap w).mono ?_
  rintro e w' ⟨he, rfl⟩
  exact ⟨Or.inr ⟨he, by simp, by simp [costs]⟩, Kept.refl _ _⟩
 ·obtain ⟨b, off, rfl, _, hc⟩ := h.open h0
  exact long_some b off n cap L w hn hm hc
theorem cost_at {L : List Stp} {i : Nat} (h : i < L.length) : costs (L.take i) + (L.getD i stp0).cost ≤ costs L := by
 have h1 : costs (L.take (i + 1)) = costs (L.take i) + (L.getD i stp0).cost := by rw [stp_snoc L i h, costs_snoc]
 have h2 : costs L = costs (L.take (i + 1)) + costs (L.drop (i + 1)) := by
  unfold costs
  rw [← List.sum_append_nat, ← List.map_append, List.take_append_drop]
 omega
/-! ### a row copied -/
theorem run_fresh (v : World) (t ty e : TypeId) {z : Value} {bs : Nat} (ht : Tryz.prog.underlying t = some (.slice e)) (hi : (Tryz.prog.info? e).map (fun i => (i.zero, i.size, i.bytes)) = some (some z, 1, bs)) (hzs : z.cells.size = 1) (ao : Option Addr) (n c : Nat) (ys : List Value) (hl : ys.length = n) (hy : ∀ j u, ys[j]? = some u → ∃ b off, ao = some ⟨b, off, none⟩ ∧ v.cell? ⟨b, off + j, none⟩ = some u) (h0 : ao = none → n = 0 ∧ c = 0) (h1 : ∀ u ∈ ys, u.oneCell' = true) (hn : n ≤ maxLen) (hb : n * bs ≤ 140737488355328) :
  ∃ g c' w', (Builtin.append_ #[t, t] ty #[.slice (some ⟨v.heap.size, 0, none⟩) 0 0, .slice ao n c]).run Tryz.prog (v.alloc (.cells #[] e)) = .ok (.slice (some ⟨g, 0, none⟩) n c') w' ∧ w'.ownsRow 0 e 1 (.slice (some ⟨g, 0, none⟩) n c') n ys ∧ Kept [] v w' ∧ v.heap.size ≤ g := by
 have hown : (v.alloc (.cells #[] e)).ownsRow v.heap.size e 1 (.slice (some ⟨v.heap.size, 0, none⟩) 0 0) 0 [] := World.ownsRow_made v #[] 0 (Nat.le_refl _) (by decide) rfl
 have hk := (Kept.refl [] v).alloc (.cells #[] e)
 obtain ⟨i0, hi, hz0, hz1, hz2⟩ := info_parts hi
 cases ao with
 | none =>
  obtain ⟨rfl, rfl⟩ := h0 rfl
  have : ys = [] := List.eq_nil_of_length_eq_zero hl
  subst this
  refine ⟨v.heap.size, 0, _, run_append_owned_none (P := Tryz.prog) (w := v.alloc (.cells #[] e)) v.heap.size t ty e i0 1 ht hi _ 0 [] hown, ownsRow_base_a hown (Nat.zero_le _), hk, Nat.le_refl _⟩
 | some ad =>
  obtain ⟨v', w', hrun, h1', h2, h3, h4⟩ := run_append_own_at (P := Tryz.prog) (v.alloc (.cells #[] e)) v.heap.size t ty e i0 z 1 bs ht hi hz0 hz1 hz2 hzs (by decide) _ 0 [] hown ad n c ys (by omega) (fun j u hj => by
   obtain ⟨b, off, e1, hc⟩ := hy j u hj
   cases e1
   rw [show ((⟨b, off, none⟩ : Addr).add j) = ⟨b, off + j, none⟩ from by unfold Addr.add; by_cases h : j = 0 <;> simp [h]]
   exact hk.cellOf hc (by simp)) h1 (by omega) (by rw [Nat.zero_add]; exact hb) hk.size
  rw [Nat.zero_add, List.nil_append] at h1'
  have hk' : Kept [] v w' := hk.grown h2 (by intro k hk2 hlt; simp [Value.ownBlock] at hk2; omega)
  rcases h1'.2 with ⟨e1, e2⟩ | ⟨g, cap', cur, e1, hg, _⟩
  ·have := (h3.1 e1).1
   simp at this
  ·subst e1
   exact ⟨g, cap', w', hrun, ownsRow_base_a h1' (Nat.zero_le _), hk', hg⟩
theorem Tryz.infoInt : (Tryz.prog.info? 3).map (fun i => (i.zero, i.size, i.bytes)) = some (some (.int .i64 0), 1, 8) := by kernel_rfl
def ins (ps : List Int) : List Value := ps.map (Value.int .i64)
end

section
open Go.RowKit Dsk
set_option linter.unusedVariables false
set_option linter.unusedSimpArgs false
theorem take_snoc' (l : List UInt8) (d : UInt8) (k : Nat) (h : k < l.length) : l.take (k + 1) = l.take k ++ [l.getD k d] := by
 rw [List.take_succ_eq_append_getElem h]
 simp [List.getElem?_eq_getElem h]
set_option maxHeartbeats 800000 in
set_option maxRecDepth 100000 in
theorem bytes_some (b1 o1 c1 b2 o2 c2 n : Nat) (xs ys : List UInt8) (w : World) (hx : xs.length = n) (hy : ys.length = n) (hm : n ≤ 4611686018427387904)
  (h1 : ∀ i, i < xs.length → w.cell? ⟨b1, o1 + i, none⟩ = some (.int .u8 (xs.getD i 0).toNat)) (h2 : ∀ i, i < ys.length → w.cell? ⟨b2, o2 + i, none⟩ = some (.int .u8 (ys.getD i 0).toNat)) :
  Calls Tryz.prog 22 #[.slice (some ⟨b1, o1, none⟩) n c1, .slice (some ⟨b2, o2, none⟩) n c2] w fun e w' => e = .returned (.bool (decide (xs = ys))) ∧ ∃ k, w' = w.drewN k := by
 go_enter Tryz.func22, Tryz.ntmps22
 go_wp2
 go_loopw [5] (fun i wr => ∃ k : Nat, k ≤ n ∧ i = .int .i64 k ∧ xs.take k = ys.take k ∧ ∃ j, wr = w.drewN j) (fun i wr => n - (intOf i).toNat)
 case atStart => exact ⟨0, Nat.zero_le _, rfl, by simp, 0, rfl⟩
 case round =>
  obtain ⟨k, hk, rfl, heq, j, hwr⟩ := hrel
  subst hwr
  have HE : Hid (xs.take k = ys.take k) := heq
  clear heq
  by_cases hlt : k < n
  ·have e1 := h1 k (by omega)
   have e2 := h2 k (by omega)
   have hc1 : (xs.getD k 0).toNat < 256 := UInt8.toNat_lt _
   have hc2 : (ys.getD k 0).toNat < 256 := UInt8.toNat_lt _
   by_cases hcc : xs.getD k 0 = ys.getD k 0
   ·have hcn : (((xs.getD k 0).toNat : Int) != ((ys.getD k 0).toNat : Int)) = false := by rw [hcc]; simp
    have HC : Hid (xs.getD k 0 = ys.getD k 0) := hcc
    clear hcc h1 h2
    generalize (xs.getD k 0).toNat = c at e1 hcn hc1
    generalize (ys.getD k 0).toNat = d at e2 hcn hc2
    go_wp2
    go_quiet (fail)
    go_wp2
    go_roundw
    case rel => exact ⟨k + 1, by omega, by go_num, by rw [take_snoc' xs 0 k (by omega), take_snoc' ys 0 k (by omega), HE.out, HC.out], _, rfl⟩
    case measure => simp [intOf]; omega
   ·have hcn : (((xs.getD k 0).toNat : Int) != ((ys.getD k 0).toNat : Int)) = true := by
     simp only [bne_iff_ne, ne_eq]
     intro h
     exact hcc (UInt8.toNat_inj.1 (by omega))
    have hfin : Hid (decide (xs = ys) = false) := by
     show _ = _
     simp only [decide_eq_false_iff_not]
     rintro rfl
     exact hcc rfl
    clear hcc h1 h2
    generalize (xs.getD k 0).toNat = c at e1 hcn hc1
    generalize (ys.getD k 0).toNat = d at e2 hcn hc2
    go_wp2
    go_quiet (fail)
    go_wp2
    go_ret
    exact ⟨by rw [hfin.out]; rfl, j + nq, by simp⟩
  ·have hfin : Hid (decide (xs = ys) = true) := by
    have := HE.out
    rw [List.take_of_length_le (by omega), List.take_of_length_le (by omega)] at this
    show _ = _
    simpa using this
   clear h1 h2
   go_wp2
   go_ret
   exact ⟨by rw [hfin.out]; rfl, j, rfl⟩
set_option maxHeartbeats 800000 in
set_option maxRecDepth 100000 in
theorem bytes_len (a1 a2 : Option Addr) (n1 c1 n2 c2 : Nat) (w : World) (hn : n1 ≠ n2) :
  Calls Tryz.prog 22 #[.slice a1 n1 c1, .slice a2 n2 c2] w fun e w' => e = .returned (.bool false) ∧ w' = w := by
 have h : ((n1 : Int) != (n2 : Int)) = true := by simp; omega
 go_enter Tryz.func22, Tryz.ntmps22
 go_wp2
 go_ret
 exact ⟨rfl, rfl⟩
set_option maxHeartbeats 800000 in
set_option maxRecDepth 100000 in
theorem bytes_none (a1 a2 : Option Addr) (c1 c2 : Nat) (w : World) :
  Calls Tryz.prog 22 #[.slice a1 0 c1, .slice a2 0 c2] w fun e w' => e = .returned (.bool true) ∧ w' = w := by
 go_enter Tryz.func22, Tryz.ntmps22
 go_wp2
 go_loop [5] (fun i => i = .int .i64 0) (fun i => 0)
 case atStart => rfl
 case round =>
  subst hrel
  go_wp2
  go_ret
  exact ⟨rfl, rfl⟩
theorem bytes_any (a1 a2 : Option Addr) (n1 c1 n2 c2 : Nat) (xs ys : List UInt8) (w : World) (hx : xs.length = n1) (hy : ys.length = n2) (hm : n1 ≤ 4611686018427387904) (h1 : Sl w a1 xs) (h2 : Sl w a2 ys) :
  Calls Tryz.prog 22 #[.slice a1 n1 c1, .slice a2 n2 c2] w fun e w' => e = .returned (.bool (decide (xs = ys))) ∧ ∃ k, w' = w.drewN k := by
 by_cases hn : n1 = n2
 ·subst hn
  by_cases h0 : xs = []
  ·subst h0
   obtain rfl : ys = [] := List.eq_nil_of_length_eq_zero (by rw [hy, ← hx]; rfl)
   obtain rfl : n1 = 0 := by simpa using hx.symm
   exact (bytes_none a1 a2 c1 c2 w).mono fun e w' ⟨he, hw⟩ => ⟨he, 0, hw⟩
  ·have h0' : ys ≠ [] := fun h => h0 (List.eq_nil_of_length_eq_zero (by rw [hx, ← hy, h]; rfl))
   obtain ⟨b1, o1, rfl, _, hc1⟩ := h1.open h0
   obtain ⟨b2, o2, rfl, _, hc2⟩ := h2.open h0'
   exact bytes_some b1 o1 c1 b2 o2 c2 n1 xs ys w hx hy hm hc1 hc2
 ·refine (bytes_len a1 a2 n1 c1 n2 c2 w hn).mono fun e w' ⟨he, hw⟩ => ⟨?_, 0, hw⟩
  rw [he]
  have : decide (xs = ys) = false := by
   simp only [decide_eq_false_iff_not]
   rintro rfl
   exact hn (hx.symm.trans hy)
  rw [this]
theorem bytes_yes (a1 a2 : Option Addr) (n c1 c2 : Nat) (xs : List UInt8) (w : World) (hx : xs.length = n) (hm : n ≤ 4611686018427387904) (h1 : Sl w a1 xs) (h2 : Sl w a2 xs) :
  Calls Tryz.prog 22 #[.slice a1 n c1, .slice a2 n c2] w fun e w' => e = .returned (.bool true) ∧ ∃ k, w' = w.drewN k := by
 have := bytes_any a1 a2 n c1 n c2 xs xs w hx hx hm h1 h2
 rw [show decide (xs = xs) = true from by simp] at this
 exact this
def Sps (w : World) (ao : Option Addr) (l : List Dsk.Span) : Prop := ∀ i, i < l.length → ∃ b, ao = some ⟨b, 0, none⟩ ∧ ∃ s : Dsk.Span, l[i]? = some s ∧ w.cell? ⟨b, i * 3, none⟩ = some (encStr s.name) ∧ w.cell? ⟨b, i * 3 + 1, none⟩ = some (.int .i64 s.at_) ∧ w.cell? ⟨b, i * 3 + 2, none⟩ = some (.int .i64 s.n)
theorem encSp_get (l : List Dsk.Span) (i : Nat) (s : Dsk.Span) (h : l[i]? = some s) (j : Nat) (v : Value) (hv : (encSp s)[j]? = some v) : (l.flatMap encSp)[i * 3 + j]? = some v := by
 have hj : j < 3 := by have := (List.getElem?_eq_some_iff.1 hv).1; simpa [encSp] using this
 induction l generalizing i with
 | nil => simp at h
 | cons x r ih =>
  have hl : (encSp x).length = 3 := rfl
  rw [List.flatMap_cons]
  cases i with
  | zero =>
   simp only [List.getElem?_cons_zero, Option.some.injEq] at h
   subst h
   rw [Nat.zero_mul, Nat.zero_add, List.getElem?_append_left (by omega)]
   exact hv
  | succ i =>
   rw [List.getElem?_append_right (by omega), hl, show (i + 1) * 3 + j - 3 = i * 3 + j by omega]
   exact ih i (by simpa using h)
theorem Sps.of {w : World} {B : Nat} {ao : Option Addr} {n c : Nat} {l : List Dsk.Span} (h : w.ownsRow B 126 3 (.slice ao n c) n (l.flatMap encSp)) : Sps w ao l := by
 intro i hi
 rcases h.2 with ⟨_, e⟩ | ⟨g, cap, cur, e, _⟩
 ·have h1 := h.1
  subst e
  rw [Nat.zero_mul] at h1
  have := encSp_get l i _ (List.getElem?_eq_getElem hi) 0 _ rfl
  rw [List.getElem?_eq_none (by omega)] at this
  cases this
 ·injection e with e _ _
  subst e
  refine ⟨g, rfl, l[i], List.getElem?_eq_getElem hi, ?_, ?_, ?_⟩
  ·have := h.cells (g := g) rfl (i * 3 + 0) _ (encSp_get l i _ (List.getElem?_eq_getElem hi) 0 _ rfl)
   rwa [add0] at this
  ·have := h.cells (g := g) rfl (i * 3 + 1) _ (encSp_get l i _ (List.getElem?_eq_getElem hi) 1 _ rfl)
   rwa [add0] at this
  ·have := h.cells (g := g) rfl (i * 3 + 2) _ (encSp_get l i _ (List.getElem?_eq_getElem hi) 2 _ rfl)
   rwa [add0] at this
set_option maxHeartbeats 800000 in
set_option maxRecDepth 100000 in
theorem spans_yes (a1 a2 : Option Addr) (n c1 c2 : Nat) (l : List Dsk.Span) (w : World) (hx : l.length = n) (hm : n ≤ 4611686018427387904) (h1 : Sps w a1 l) (h2 : Sps w a2 l) :
  Calls Tryz.prog 46 #[.slice a1 n c1, .slice a2 n c2] w fun e w' => e = .returned (.bool true) ∧ ∃ k, w' = w.drewN k := by
 have HX := hide hx
 clear hx
 go_enter Tryz.func46, Tryz.ntmps46
 go_wp2
 go_loopw [5] (fun i wr => ∃ k : Nat, k ≤ n ∧ i = .int .i64 k ∧ ∃ j, wr = w.drewN j) (fun i wr => n - (intOf i).toNat)
 case atStart => exact ⟨0, Nat.zero_le _, rfl, 0, rfl⟩
 case round =>
  obtain ⟨k, hk, rfl, j, hwr⟩ := hrel
  subst hwr
  by_cases hlt : k < n
  ·obtain ⟨b1, rfl, s, hs, e1, e2, e3⟩ := h1 k (by rw [HX.out]; exact hlt)
   obtain ⟨b2, rfl, s', hs', d1, d2, d3⟩ := h2 k (by rw [HX.out]; exact hlt)
   rw [hs] at hs'
   cases hs'
   generalize s.name = x at e1 d1
   generalize (s.at_ : Int) = y at e2 d2
   generalize (s.n : Int) = z at e3 d3
   clear h1 h2 hs s
   go_wp2
   go_quiet (fail)
   go_wp2
   go_roundw
   case rel => exact ⟨k + 1, by omega, by go_num, _, rfl⟩
   case measure => simp [intOf]; omega
  ·clear h1 h2
   go_wp2
   go_ret
   exact ⟨rfl, j, rfl⟩
def Fis (w : World) (ao : Option Addr) (L : List (By × By)) : Prop := ∀ i, i < L.length → ∃ b, ao = some ⟨b, 0, none⟩ ∧ ∃ f : By × By, L[i]? = some f ∧ w.cell? ⟨b, i * 2, none⟩ = some (encStr f.1) ∧ ∃ bo bc, w.cell? ⟨b, i * 2 + 1, none⟩ = some (.slice bo f.2.length bc) ∧ Sl w bo f.2
theorem fcells_get (L : List (By × By)) (vs : List Value) (i : Nat) (f : By × By) (u : Value) (hl : vs.length = L.length) (h : L[i]? = some f) (hu : vs[i]? = some u) : (fcells L vs)[i * 2]? = some (encStr f.1) ∧ (fcells L vs)[i * 2 + 1]? = some u := by
 induction L generalizing i vs with
 | nil => simp at h
 | cons x r ih =>
  cases vs with
  | nil => simp at hl
  | cons y vs =>
   cases i with
   | zero =>
    simp only [List.getElem?_cons_zero, Option.some.injEq] at h hu
    subst h hu
    exact ⟨rfl, rfl⟩
   | succ i =>
    have := ih vs i (by simpa using hl) (by simpa using h) (by simpa using hu)
    rw [show (i + 1) * 2 = i * 2 + 1 + 1 by omega, show i * 2 + 1 + 1 + 1 = i * 2 + 1 + 1 + 1 from rfl]
    simp only [fcells, List.getElem?_cons_succ]
    exact this
theorem Fis.of {w : World} {B : Nat} {ao : Option Addr} {n c : Nat} {L : List (By × By)} {vs : List Value} (h : Fls w B (.slice ao n c) L vs) : Fis w ao L ∧ n = L.length := by
 have hn : n = L.length := by
  rcases h.row.2 with ⟨e, e2⟩ | ⟨g, cap, cur, e, _⟩
  ·injection e with _ e _; omega
  ·injection e
 refine ⟨fun i hi => ?_, hn⟩
 have hv : i < vs.length := by rw [h.len]; exact hi
 obtain ⟨q1, q2⟩ := fcells_get L vs i _ _ h.len (List.getElem?_eq_getElem hi) (List.getElem?_eq_getElem hv)
 have hb := h.own i _ _ (List.getElem?_eq_getElem hi) (List.getElem?_eq_getElem hv)
 obtain ⟨bo, bc, e, _⟩ := hb.shape
 rw [e] at q2 hb
 rcases h.row.2 with ⟨e, e2⟩ | ⟨g, cap, cur, e, _⟩
 ·omega
 ·injection e with e _ _
  subst e
  refine ⟨g, rfl, _, List.getElem?_eq_getElem hi, ?_, bo, bc, ?_, hb.sl⟩
  ·have := h.row.cells (g := g) rfl _ _ q1
   rwa [add0] at this
  ·have := h.row.cells (g := g) rfl _ _ q2
   rwa [add0] at this
theorem Fis.kept {w w' : World} {ao : Option Addr} {L : List (By × By)} (h : Fis w ao L) (hk : Kept [] w w') : Fis w' ao L := fun i hi => by
 obtain ⟨b, e, f, hf, c1, bo, bc, c2, hs⟩ := h i hi
 exact ⟨b, e, f, hf, hk.cellOf c1 (by simp), bo, bc, hk.cellOf c2 (by simp), hs.kept hk (by simp)⟩
set_option maxHeartbeats 800000 in
set_option maxRecDepth 100000 in
theorem files_yes (a1 a2 : Option Addr) (n c1 c2 : Nat) (L : List (By × By)) (w : World) (hx : L.length = n) (hm : n ≤ 4611686018427387904) (hM : ∀ f ∈ L, f.2.length ≤ 4611686018427387904) (h1 : Fis w a1 L) (h2 : Fis w a2 L) :
  Calls Tryz.prog 42 #[.slice a1 n c1, .slice a2 n c2] w fun e w' => e = .returned (.bool true) ∧ ∃ k, w' = w.drewN k := by
 have HX := hide hx
 clear hx
 go_enter Tryz.func42, Tryz.ntmps42
 go_wp2
 go_loopw [5] (fun i wr => ∃ k : Nat, k ≤ n ∧ i = .int .i64 k ∧ ∃ j, wr = w.drewN j) (fun i wr => n - (intOf i).toNat)
 case atStart => exact ⟨0, Nat.zero_le _, rfl, 0, rfl⟩
 case round =>
  obtain ⟨k, hk, rfl, j, hwr⟩ := hrel
  have HW := hide hwr
  have hkw : Kept [] w wr := by rw [hwr]; exact (Kept.refl [] w).drewN _
  clear hwr
  by_cases hlt : k < n
  ·obtain ⟨b1, rfl, s, hs, e1, bo1, bc1, e2, s1⟩ := h1 k (by rw [HX.out]; exact hlt)
   obtain ⟨b2, rfl, s', hs', d1, bo2, bc2, d2, s2⟩ := h2 k (by rw [HX.out]; exact hlt)
   rw [hs] at hs'
   cases hs'
   replace e1 := hkw.cellOf e1 (by simp)
   replace e2 := hkw.cellOf e2 (by simp)
   replace d1 := hkw.cellOf d1 (by simp)
   replace d2 := hkw.cellOf d2 (by simp)
   have hb : Hid (∀ v, Kept [] wr v → Calls Tryz.prog 22 #[.slice bo1 s.2.length bc1, .slice bo2 s.2.length bc2] v fun e w' => e = .returned (.bool true) ∧ ∃ k, w' = v.drewN k) := fun v hv => bytes_yes bo1 bo2 s.2.length bc1 bc2 s.2 v rfl (hM s (List.mem_of_getElem? hs)) (s1.kept (hkw.trans hv (by simp)) (by simp)) (s2.kept (hkw.trans hv (by simp)) (by simp))
   generalize s.1 = x at e1 d1
   generalize s.2.length = z at e2 d2 hb
   have HM : Hid (∀ f ∈ L, f.2.length ≤ 4611686018427387904) := hM
   clear h1 h2 hs s1 s2 s hM hkw
   go_wp2
   go_quiet ((go_at_call 22; exact Calls.quiet_of (hb.out _ ((Kept.refl [] wr).drewN _))))
   go_wp2
   go_roundw
   case rel => exact ⟨k + 1, by omega, by go_num, j + nq, by rw [HW.out]; simp⟩
   case measure => simp [intOf]; omega
  ·clear h1 h2
   go_wp2
   go_ret
   exact ⟨rfl, j, HW.out⟩
def totalOf (L : List (By × By)) : Nat := (L.map (fun f => f.2.length)).sum
theorem totalOf_take (L : List (By × By)) (k : Nat) (f : By × By) (h : L[k]? = some f) : totalOf (L.take (k + 1)) = totalOf (L.take k) + f.2.length := by
 rw [List.take_add_one, h]
 simp [totalOf]
theorem totalOf_le (L : List (By × By)) (k : Nat) : totalOf (L.take k) ≤ totalOf L := by
 have : totalOf L = totalOf (L.take k) + totalOf (L.drop k) := by
  unfold totalOf
  rw [← List.sum_append_nat, ← List.map_append, List.take_append_drop]
 omega
end

end Go.Proofs.YteckiednnaianaaGreat
