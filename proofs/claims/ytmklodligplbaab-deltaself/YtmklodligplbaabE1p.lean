import Derived.Test.YtmklodligplbaabProg
import Derived.Test.YtmklodligplbaabPurep
import Derived.Test.YtmklodligplbaabMemp
import Derived.Deep.MidRow
import Derived.StillTailTactics
import Derived.Deep.RegionHeld3
import Derived.Laws.CopyOwn
import Derived.Deep.QuietTactic
import Derived.BigQuiet
import Derived.Laws.AppendOwnNone
namespace Go.Proofs.Ytmklodligplbaab
section
open Go.RowKit
set_option linter.unusedVariables false
set_option linter.unusedSimpArgs false

theorem getD_take_snoc (xs : List UInt8) (k : Nat) (hk : k < xs.length) : xs.take (k + 1) = xs.take k ++ [xs.getD k 0] := by
  rw [List.take_succ_eq_append_getElem hk]
  simp [List.getElem?_eq_getElem hk]

set_option maxHeartbeats 1000000 in
set_option maxRecDepth 100000 in
theorem refsum_some (b off n cap : Nat) (xs : List UInt8) (w : World) (hn : xs.length = n) (hm : n ≤ 9223372036854775806) (hc : ∀ i, i < xs.length → w.cell? ⟨b, off + i, none⟩ = some (.int .u8 (xs.getD i 0).toNat)) :
    Calls Try.prog 26 #[.slice (some ⟨b, off, none⟩) n cap] w fun e w' => e = .returned (.int .i64 (Rol.sum xs)) ∧ w' = w := by
  go_enter Try.func26, Try.ntmps26
  go_wp2
  go_loop [3, 4, 5] (fun x y i => ∃ k : Nat, k ≤ n ∧ i = .int .i64 k ∧ x = .int .i64 (Rol.pa (xs.take k)) ∧ y = .int .i64 (Rol.pb (xs.take k))) (fun x y i => n - (intOf i).toNat)
  case atStart => exact ⟨0, Nat.zero_le _, rfl, rfl, rfl⟩
  case round =>
    obtain ⟨k, hk, rfl, rfl, rfl⟩ := hrel
    have ha := Rol.pa_lt (xs.take k)
    have hb := Rol.pb_lt (xs.take k)
    by_cases hlt : k < n
    · have hcell := hc k (by omega)
      have hcb : (xs.getD k 0).toNat < 256 := UInt8.toNat_lt _
      have HA : Hid (Rol.pa (xs.take (k + 1)) = (Rol.pa (xs.take k) + (xs.getD k 0).toNat) % 65536) := by
        show _ = _
        rw [getD_take_snoc xs k (by omega), Rol.pa_snoc]
      have HB : Hid (Rol.pb (xs.take (k + 1)) = (Rol.pb (xs.take k) + Rol.pa (xs.take (k + 1))) % 65536) := by
        show _ = _
        rw [getD_take_snoc xs k (by omega), Rol.pb_snoc]
      generalize Rol.pa (xs.take k) = a at ha HA ⊢
      generalize Rol.pb (xs.take k) = b' at hb HB ⊢
      generalize (xs.getD k 0).toNat = c at hcell hcb HA
      clear hc
      go_wp2
      go_round
      case rel => exact ⟨k + 1, by omega, by go_num, by rw [HA.out]; go_num, by rw [HB.out, HA.out]; go_num⟩
      case measure => simp [intOf]; omega
    · have HT : Hid (xs.take k = xs) := List.take_of_length_le (by omega)
      have HS : Hid (Rol.sum xs = Rol.pa (xs.take k) + 65536 * Rol.pb (xs.take k)) := by show _ = _; rw [HT.out]; rfl
      generalize Rol.pa (xs.take k) = a at ha HS ⊢
      generalize Rol.pb (xs.take k) = b' at hb HS ⊢
      clear hc
      go_wp2
      go_ret
      exact ⟨by rw [HS.out]; go_num, rfl⟩

set_option maxHeartbeats 1000000 in
set_option maxRecDepth 100000 in
theorem refsum_none (ao : Option Addr) (cap : Nat) (w : World) :
    Calls Try.prog 26 #[.slice ao 0 cap] w fun e w' => e = .returned (.int .i64 (Rol.sum [])) ∧ w' = w := by
  go_enter Try.func26, Try.ntmps26
  go_wp2
  go_loop [3, 4, 5] (fun x y i => i = .int .i64 0 ∧ x = .int .i64 0 ∧ y = .int .i64 0) (fun x y i => 0)
  case atStart => exact ⟨rfl, rfl, rfl⟩
  case round =>
    obtain ⟨rfl, rfl, rfl⟩ := hrel
    go_wp2
    go_ret
    exact ⟨rfl, rfl⟩

/-- freightref3.Sum. -/
theorem refsum_n (ao : Option Addr) (n cap : Nat) (xs : List UInt8) (w : World) (hn : xs.length = n) (hm : n ≤ 9223372036854775806) (h : Sl w ao xs) :
    Calls Try.prog 26 #[.slice ao n cap] w fun e w' => e = .returned (.int .i64 (Rol.sum xs)) ∧ w' = w := by
  by_cases h0 : xs = []
  · subst h0
    obtain rfl : n = 0 := by simpa using hn.symm
    exact refsum_none ao cap w
  · obtain ⟨b, off, rfl, hb, hc⟩ := h.open h0
    exact refsum_some b off n cap xs w hn hm hc
end

section
open Go.RowKit
set_option linter.unusedVariables false
set_option linter.unusedSimpArgs false

/-- The value of two parts. -/
abbrev pv (a b : Nat) : Value := .agg #[.int .u16 a, .int .u16 b]

theorem wrap_u16 (n : Nat) : IntKind.u16.wrap (n : Int) = ((n % 65536 : Nat) : Int) := by
  simp [IntKind.wrap, IntKind.bits, IntKind.signed]

structure PRel (w wr : World) (R P : Nat) (a b : Nat) : Prop where
  row : wr.heap[P]? = some (.cells #[.int .u16 a, .int .u16 b] 132 (0, 0))
  res : wr.heap[R]? = some (.cells #[.int .u16 0, .int .u16 0] 132 (0, 0))
  kept : Kept [] w wr

theorem Try.zeroParts (W : World) : (zeroValue 132).run Try.prog W = .ok (.agg #[.int .u16 0, .int .u16 0]) W := by kernel_rfl

theorem PRel.ca {w wr : World} {R P a b : Nat} (h : PRel w wr R P a b) : wr.cell? ⟨P, 0, none⟩ = some (.int .u16 a) := by rw [cell_of_row _ _ _ _ _ _ h.row]; rfl
theorem PRel.cb {w wr : World} {R P a b : Nat} (h : PRel w wr R P a b) : wr.cell? ⟨P, 1, none⟩ = some (.int .u16 b) := by rw [cell_of_row _ _ _ _ _ _ h.row]; rfl
theorem PRel.fr {w wr : World} {R P a b : Nat} (h : PRel w wr R P a b) (i : Nat) : wr.frozen? ⟨P, i, none⟩ = false := frozen_of_row _ _ _ _ _ h.row
theorem PRel.set0 {w wr : World} {R P a b : Nat} (h : PRel w wr R P a b) (hRP : R ≠ P) (hP : w.heap.size ≤ P) (a' : Nat) : PRel w (wr.setCell ⟨P, 0, none⟩ (.int .u16 a')) R P a' b := by
  refine ⟨?_, ?_, h.kept.setCell (by simp; omega) _⟩
  · rw [heap_setCell_same _ _ _ _ _ _ h.row]; rfl
  · rw [heap_setCell_other _ _ _ _ (by simpa using hRP)]; exact h.res
theorem PRel.set1 {w wr : World} {R P a b : Nat} (h : PRel w wr R P a b) (hRP : R ≠ P) (hP : w.heap.size ≤ P) (b' : Nat) : PRel w (wr.setCell ⟨P, 1, none⟩ (.int .u16 b')) R P a b' := by
  refine ⟨?_, ?_, h.kept.setCell (by simp; omega) _⟩
  · rw [heap_setCell_same _ _ _ _ _ _ h.row]; rfl
  · rw [heap_setCell_other _ _ _ _ (by simpa using hRP)]; exact h.res

set_option maxHeartbeats 1000000 in
set_option maxRecDepth 100000 in
theorem partsOf_some (b off n cap : Nat) (xs : List UInt8) (w : World) (hn : xs.length = n) (hm : n ≤ 9223372036854775806) (hbw : n ≠ 0 → b < w.heap.size) (hc : ∀ i, i < n → w.cell? ⟨b, off + i, none⟩ = some (.int .u8 (xs.getD i 0).toNat)) :
    Calls Try.prog 67 #[.slice (some ⟨b, off, none⟩) n cap] w fun e w' => e = .returned (pv (Rol.pa xs) (Rol.pb xs)) ∧ Kept [] w w' := by
  have hzv := Try.zeroParts
  obtain ⟨P, hP⟩ : ∃ P, P = w.heap.size + 1 := ⟨_, rfl⟩
  have HI : Hid (PRel w ((w.alloc (.cells #[.int .u16 0, .int .u16 0] 132)).alloc (.cells #[.int .u16 0, .int .u16 0] 132)) w.heap.size (w.heap.size + 1) 0 0) := by
    refine ⟨?_, ?_, ((Kept.refl _ _).alloc _).alloc _⟩
    · have := heap_alloc_new (w.alloc (.cells #[.int .u16 0, .int .u16 0] 132)) (.cells #[.int .u16 0, .int .u16 0] 132)
      simpa using this
    · rw [Below.heap_alloc _ _ _ (by simp)]
      exact heap_alloc_new _ _
  have HN : Hid (xs.length = n) := hn
  have HC : Hid (∀ i, i < n → w.cell? ⟨b, off + i, none⟩ = some (.int .u8 (xs.getD i 0).toNat)) := hc
  have HB : Hid (n ≠ 0 → b < w.heap.size) := hbw
  clear hn hc hbw
  go_enter Try.func67, Try.ntmps67
  go_wp2
  go_loopw [8] (fun i wr => ∃ k : Nat, k ≤ n ∧ i = .int .i64 k ∧ Hid (PRel w wr w.heap.size (w.heap.size + 1) (Rol.pa (xs.take k)) (Rol.pb (xs.take k)))) (fun i wr => n - (intOf i).toNat)
  case atStart => exact ⟨0, Nat.zero_le _, rfl, HI⟩
  case round =>
    clear HI
    obtain ⟨k, hk, rfl, HR⟩ := hrel
    have ha := Rol.pa_lt (xs.take k)
    have hb := Rol.pb_lt (xs.take k)
    have ca := HR.out.ca
    have cb := HR.out.cb
    have fr0 := HR.out.fr 0
    have fr1 := HR.out.fr 1
    by_cases hlt : k < n
    · have hcell : wr.cell? ⟨b, off + k, none⟩ = some (.int .u8 (xs.getD k 0).toNat) := HR.out.kept.cellOf (HC.out k hlt) (by simp)
      have hcb : (xs.getD k 0).toNat < 256 := UInt8.toNat_lt _
      have HA : Hid (Rol.pa (xs.take (k + 1)) = (Rol.pa (xs.take k) + (xs.getD k 0).toNat) % 65536) := by
        show _ = _
        rw [getD_take_snoc xs k (by rw [HN.out]; omega), Rol.pa_snoc]
      have HB : Hid (Rol.pb (xs.take (k + 1)) = (Rol.pb (xs.take k) + Rol.pa (xs.take (k + 1))) % 65536) := by
        show _ = _
        rw [getD_take_snoc xs k (by rw [HN.out]; omega), Rol.pb_snoc]
      generalize Rol.pa (xs.take k) = a at ha HA HR ca ⊢
      generalize Rol.pb (xs.take k) = b' at hb HB HR cb ⊢
      generalize (xs.getD k 0).toNat = c at hcell hcb HA
      have e1 : IntKind.u16.wrap ((a : Int) + c) = ((Rol.pa (xs.take (k + 1)) : Nat) : Int) := by rw [HA.out, ← wrap_u16]; congr 1
      have e2 : IntKind.u16.wrap ((b' : Int) + (Rol.pa (xs.take (k + 1)) : Nat)) = ((Rol.pb (xs.take (k + 1)) : Nat) : Int) := by rw [HB.out, ← wrap_u16]; congr 1
      have HR2 : Hid (PRel w ((wr.setCell ⟨w.heap.size + 1, 0, none⟩ (.int .u16 (Rol.pa (xs.take (k + 1)) : Nat))).setCell ⟨w.heap.size + 1, 1, none⟩ (.int .u16 (Rol.pb (xs.take (k + 1)) : Nat))) w.heap.size (w.heap.size + 1) (Rol.pa (xs.take (k + 1))) (Rol.pb (xs.take (k + 1)))) :=
        (HR.out.set0 (by omega) (by omega) _).set1 (by omega) (by omega) _
      clear HR HA HB
      go_wp2
      go_roundw
      case rel => exact ⟨k + 1, by omega, by go_num, HR2⟩
      case measure => simp [intOf]; omega
    · obtain rfl : k = n := by omega
      have HT : Hid (xs.take k = xs) := List.take_of_length_le (by rw [HN.out]; omega)
      have cr0 : wr.cell? ⟨w.heap.size, 0, none⟩ = some (.int .u16 0) := by rw [cell_of_row _ _ _ _ _ _ HR.out.res]; rfl
      have cr1 : wr.cell? ⟨w.heap.size, 1, none⟩ = some (.int .u16 0) := by rw [cell_of_row _ _ _ _ _ _ HR.out.res]; rfl
      have fz0 : wr.frozen? ⟨w.heap.size, 0, none⟩ = false := frozen_of_row _ _ _ _ _ HR.out.res
      have fz1 : wr.frozen? ⟨w.heap.size, 1, none⟩ = false := frozen_of_row _ _ _ _ _ HR.out.res
      have HK := HR.out.kept
      clear HR HC HB HN
      go_wp2
      refine bodyPost_ret (v := pv (Rol.pa xs) (Rol.pb xs)) ?_ rfl ⟨rfl, (HK.setCell (by simp) _).setCell (by simp) _⟩
      rw [HT.out]
      simp [results, Try.results67, go_sem, cr0, cr1, fz0, fz1]

theorem partsOf_none (ao : Option Addr) (cap : Nat) (w : World) :
    Calls Try.prog 67 #[.slice ao 0 cap] w fun e w' => e = .returned (pv (Rol.pa []) (Rol.pb [])) ∧ Kept [] w w' := by
  have hzv := Try.zeroParts
  have HK : Kept [] w ((w.alloc (.cells #[.int .u16 0, .int .u16 0] 132)).alloc (.cells #[.int .u16 0, .int .u16 0] 132)) := ((Kept.refl _ _).alloc _).alloc _
  go_enter Try.func67, Try.ntmps67
  go_wp2
  go_loop [8] (fun i => i = .int .i64 0) (fun i => 0)
  case atStart => rfl
  case round =>
    subst hrel
    go_wp2
    refine bodyPost_ret (v := pv (Rol.pa []) (Rol.pb [])) ?_ rfl ⟨rfl, ?_⟩
    · simp [results, Try.results67, go_sem, pv, Rol.pa_nil, Rol.pb_nil]
    · first | exact HK | exact (HK.setCell (by simp) _).setCell (by simp) _

/-- roll.partsOf. -/
theorem partsOf_n (ao : Option Addr) (n cap : Nat) (xs : List UInt8) (w : World) (hn : xs.length = n) (hm : n ≤ 9223372036854775806) (h : Sl w ao xs) :
    Calls Try.prog 67 #[.slice ao n cap] w fun e w' => e = .returned (pv (Rol.pa xs) (Rol.pb xs)) ∧ Kept [] w w' := by
  by_cases h0 : xs = []
  · subst h0
    obtain rfl : n = 0 := by simpa using hn.symm
    exact partsOf_none ao cap w
  · obtain ⟨b, off, rfl, hb, hc⟩ := h.open h0
    exact partsOf_some b off n cap xs w hn hm (fun _ => hb) (fun i hi => hc i (by omega))

theorem i64_or_nat (a b : Nat) (ha : a < 65536) (hb : b < 65536) : bits .or .i64 ((b : Int) * 65536) (a : Int) = ((a + 65536 * b : Nat) : Int) := by
  show IntKind.i64.wrap ((BitVec.ofInt 64 ((b : Int) * 65536) ||| BitVec.ofInt 64 (a : Int)).toNat : Int) = _
  have e1 : ((b : Int) * 65536) = ((b * 65536 : Nat) : Int) := by omega
  rw [e1, BitVec.ofInt_natCast, BitVec.ofInt_natCast, BitVec.toNat_or, BitVec.toNat_ofNat, BitVec.toNat_ofNat, Nat.mod_eq_of_lt (by omega), Nat.mod_eq_of_lt (by omega)]
  have e2 : b * 65536 ||| a = a + 65536 * b := by
    have := Nat.two_pow_add_eq_or_of_lt (i := 16) (b := a) (by omega) b
    rw [show b * 65536 = 2 ^ 16 * b by omega, ← this]
    omega
  rw [e2]
  simp [IntKind.wrap, IntKind.bits, IntKind.signed]
  omega

set_option maxHeartbeats 1000000 in
set_option maxRecDepth 100000 in
theorem psum_any (a b : Nat) (w : World) (ha : a < 65536) (hb : b < 65536) :
    Calls Try.prog 68 #[pv a b] w fun e w' => e = .returned (.int .i64 ((a + 65536 * b : Nat) : Int)) ∧ Kept [] w w' := by
  have e1 := i64_or_nat a b ha hb
  have HK : Kept [] w (w.alloc (.cells #[.int .u16 a, .int .u16 b] 132)) := (Kept.refl _ _).alloc _
  go_enter Try.func68, Try.ntmps68
  go_wp2
  go_ret
  exact ⟨rfl, HK⟩

theorem wrap_u16_sub (a x : Nat) (hx : x ≤ 65536) : IntKind.u16.wrap ((a : Int) - (x : Int)) = (((a + 65536 - x) % 65536 : Nat) : Int) := by
  simp [IntKind.wrap, IntKind.bits, IntKind.signed]
  omega
theorem wrap_u16_add (a x : Nat) : IntKind.u16.wrap ((a : Int) + (x : Int)) = (((a + x) % 65536 : Nat) : Int) := by rw [← wrap_u16]; congr 1
theorem wrap_u16_mul (n x : Nat) : IntKind.u16.wrap (((n % 65536 : Nat) : Int) * (x : Int)) = ((n * x % 65536 : Nat) : Int) := by
  rw [show ((n % 65536 : Nat) : Int) * (x : Int) = ((n % 65536 * x : Nat) : Int) by simp, wrap_u16, Nat.mod_mul_mod]

/-- The parts behind one step. -/
abbrev mva (a x c : Nat) : Nat := ((a + 65536 - x) % 65536 + c) % 65536
abbrev mvb (a b x c n : Nat) : Nat := ((b + 65536 - n * x % 65536) % 65536 + mva a x c) % 65536

theorem mva_move (x : UInt8) (l : List UInt8) (c : UInt8) : mva (Rol.pa (x :: l)) x.toNat c.toNat = Rol.pa (l ++ [c]) := by
  rw [Rol.pa_move x l c]; have := UInt8.toNat_lt x; unfold mva; omega
theorem mvb_move (x : UInt8) (l : List UInt8) (c : UInt8) (n : Nat) (hn : n = l.length + 1) : mvb (Rol.pa (x :: l)) (Rol.pb (x :: l)) x.toNat c.toNat n = Rol.pb (l ++ [c]) := by
  unfold mvb
  rw [mva_move, Rol.pb_move x l c, hn]
  omega

set_option maxHeartbeats 1000000 in
set_option maxRecDepth 100000 in
theorem moved_any (a b x c n : Nat) (w : World) (ha : a < 65536) (hb : b < 65536) (hx : x < 256) (hc : c < 256) (hn : n ≤ 9223372036854775807) :
    Calls Try.prog 94 #[pv a b, .int .u8 x, .int .u8 c, .int .i64 n] w fun e w' => e = .returned (pv (mva a x c) (mvb a b x c n)) ∧ Kept [] w w' := by
  have hzv := Try.zeroParts
  have e1 := wrap_u16_sub a x (by omega)
  have e2 := wrap_u16_add ((a + 65536 - x) % 65536) c
  have e3 := wrap_u16 n
  have e4 := wrap_u16_mul n x
  have e5 := wrap_u16_sub b (n * x % 65536) (by omega)
  have e6 := wrap_u16_add ((b + 65536 - n * x % 65536) % 65536) (mva a x c)
  have l1 : mva a x c < 65536 := Nat.mod_lt _ (by omega)
  have l2 : mvb a b x c n < 65536 := Nat.mod_lt _ (by omega)
  have e2' : IntKind.u16.wrap (((a + 65536 - x) % 65536 : Nat) + (c : Int)) = (mva a x c : Nat) := e2
  have e6' : IntKind.u16.wrap (((b + 65536 - n * x % 65536) % 65536 : Nat) + (mva a x c : Nat)) = ((mvb a b x c n : Nat) : Int) := e6
  clear e2 e6
  have q1 : (a + 65536 - x) % 65536 < 65536 := Nat.mod_lt _ (by omega)
  have q2 : n % 65536 < 65536 := Nat.mod_lt _ (by omega)
  have q3 : n * x % 65536 < 65536 := Nat.mod_lt _ (by omega)
  have q4 : (b + 65536 - n * x % 65536) % 65536 < 65536 := Nat.mod_lt _ (by omega)
  generalize mvb a b x c n = b2 at e6' l2 ⊢
  generalize mva a x c = a2 at e2' e6' l1 ⊢
  generalize (b + 65536 - n * x % 65536) % 65536 = m4 at e5 e6' q4
  generalize n * x % 65536 = m3 at e4 e5 q3
  generalize n % 65536 = m2 at e3 e4 q2
  generalize (a + 65536 - x) % 65536 = m1 at e1 e2' q1
  go_enter Try.func94, Try.ntmps94
  go_wp2
  refine bodyPost_ret (v := pv a2 b2) ?_ rfl ⟨rfl, ((Kept.refl _ _).alloc _).alloc _⟩
  simp [results, Try.results94, go_sem]

/-- roll.Sum: the sum of the bytes. -/
theorem rsum_n (ao : Option Addr) (n cap : Nat) (xs : List UInt8) (w : World) (hn : xs.length = n) (hm : n ≤ 9223372036854775806) (h : Sl w ao xs) :
    Calls Try.prog 37 #[.slice ao n cap] w fun e w' => e = .returned (.int .i64 (Rol.sum xs)) ∧ Kept [] w w' := by
  have ha := Rol.pa_lt xs
  have hb := Rol.pb_lt xs
  go_enter Try.func37, Try.ntmps37
  go_wp2_with (first | (go_at_call 67; refine (partsOf_n ao n cap xs _ hn hm h).mono ?_; rintro e w1 ⟨rfl, hk1⟩) | (go_at_call 68; refine (psum_any _ _ _ ha hb).mono ?_; rintro e w2 ⟨rfl, hk2⟩))
  go_ret
  exact ⟨rfl, hk1.trans hk2 (by simp)⟩
end

section
open Go.RowKit
set_option linter.unusedVariables false
set_option linter.unusedSimpArgs false

theorem ret_intE {k : IntKind} {a b : Int} (h : a = b) : Ending.returned (.int k a) = .returned (.int k b) := by rw [h]
theorem Try.followsE : Try.prog.follows .mixedOrders = true := by kernel_rfl
theorem Try.sizeByteE : (Try.prog.info? 5).map (·.size) = some 1 := by kernel_rfl
theorem kept_setRowE {l : List Nat} {a w : World} (h : Kept l a w) {g : Nat} (hg : g < a.heap.size → g ∈ l) (cs : Array Value) : Kept l a (w.setRow g cs) :=
  h.trans (l2 := [g]) ⟨rfl, rfl, rfl, by simp [World.setRow], fun k _ hn => setRow_other w g k cs (by simpa using hn)⟩ (by simpa using hg)
theorem Try.cutFromE (W : World) (ao : Option Addr) (g off L cap m : Nat) (hm : m ≤ L) :
    (Instr.slice 22 (.slice (some ⟨g, off, none⟩) L cap) (some (.int .i64 m)) none none).run Try.prog W = .ok (.slice (if cap = m then some ⟨g, off, none⟩ else some ⟨g, off + m, none⟩) (L - m) (cap - m)) W := by
  have hz : (sizeOf (Try.prog.elem 22)).run Try.prog W = .ok 1 W := by kernel_rfl
  have h := run_slice_l (P := Try.prog) W 22 (some ⟨g, off, none⟩) L cap (by kernel_rfl) .i64 m (by omega) (by omega)
  rw [h, hz]
  by_cases hc : cap = m <;> simp [sliced, Addr.add_mid, hc]
theorem Try.cutToE (W : World) (ao : Option Addr) (L cap m : Nat) (hm : m ≤ cap) :
    (Instr.slice 22 (.slice ao L cap) none (some (.int .i64 m)) none).run Try.prog W = .ok (.slice ao m cap) W := by
  have hz : (sizeOf (Try.prog.elem 22)).run Try.prog W = .ok 1 W := by kernel_rfl
  have h := run_slice_h (P := Try.prog) W 22 ao L cap (by kernel_rfl) .i64 m (by omega) (by omega)
  rw [h, hz]
  cases ao <;> simp [sliced, Addr.add]
end

section
open Go.RowKit
set_option linter.unusedVariables false

theorem Try.infoByteE : (Try.prog.info? 5).map (fun i => (i.zero, i.size, i.bytes)) = some (some (.int .u8 0), 1, 1) := by kernel_rfl

set_option maxHeartbeats 400000 in
set_option maxRecDepth 100000 in
theorem clone_nilE (w : World) :
    Calls Try.prog 92 #[.slice none 0 0] w fun e w' => e = .returned (.slice none 0 0) ∧ w' = w := by
  have hnil := fun (w : World) (a : Option Addr) (n c : Nat) => Lib.run_eql_slice_nil (P := Try.prog) w 22 5 a n c 0 0 Try.underlying22
  go_enter Try.func92, Try.ntmps92
  go_wp2
  go_ret
  exact ⟨rfl, rfl⟩

set_option maxHeartbeats 400000 in
set_option maxRecDepth 100000 in
theorem clone_someE (ad : Addr) (cap : Nat) (xs : List UInt8) (w : World) (hm : xs.length ≤ 140737488355328) (hc : ∀ j u, (bys xs)[j]? = some u → (w.alloc (.cells #[] 5)).cell? (ad.add j) = some u) :
    Calls Try.prog 92 #[.slice (some ad) xs.length cap] w fun e w' => ∃ g cap', e = .returned (.slice (some ⟨g, 0, none⟩) xs.length cap') ∧ w.heap.size ≤ g ∧ g < w'.heap.size ∧ xs.length ≤ cap' ∧ Sl w' (some ⟨g, 0, none⟩) xs ∧ Kept [] w w' ∧ w'.ownsRow w.heap.size 5 1 (.slice (some ⟨g, 0, none⟩) xs.length cap') xs.length (bys xs) := by
  obtain ⟨i0, hi, hz0, hz1, hz2⟩ := info_parts Try.infoByteE
  have hnil := fun (w : World) (a : Option Addr) (n c : Nat) => Lib.run_eql_slice_nil (P := Try.prog) w 22 5 a n c 0 0 Try.underlying22
  go_enter Try.func92, Try.ntmps92
  go_wp2_with (at_builtin; refine wpList_append_own _ rfl _ _ 22 rfl w.heap.size 5 i0 (.int .u8 0) 1 1 Try.underlying22 hi hz0 hz1 hz2 rfl (by decide) _ 0 [] rfl (World.ownsRow_made w #[] 0 (Nat.le_refl _) (by decide) rfl) ad xs.length cap (bys xs) rfl (by simp [bys_length]) hc (bys_oneCell xs) ?c3 ?c4 ?c5 ?_)
  case c3 => unfold maxLen; omega
  case c4 => omega
  case c5 => simp
  intro v' w1 hown hgrow hnn
  obtain ⟨g, cap', hv, hg, hgs, hcap, hsl⟩ := own_sl hown hnn
  have hk : Kept [] w w1 := ((Kept.refl [] w).alloc _).grown hgrow (by intro k hk hlt; simp [Value.ownBlock] at hk; omega)
  have HOW : Hid (w1.ownsRow w.heap.size 5 1 (.slice (some ⟨g, 0, none⟩) xs.length cap') xs.length (bys xs)) := by
    have h := hown
    rw [hv] at h
    exact h
  rw [hv]
  clear hown hgrow hnn hv hnil hc
  go_wp2
  go_ret
  exact ⟨g, cap', rfl, hg, hgs, hcap, hsl, hk, HOW.out⟩

/-- What a call answers as new memory. -/
def FreshE (w w' : World) (ao : Option Addr) (cap : Nat) (ys : List UInt8) : Prop :=
  Sl w' ao ys ∧ ys.length ≤ cap ∧ (ao = none → ys = [] ∧ cap = 0) ∧ ∀ a, ao = some a → w.heap.size ≤ a.block ∧ a.block < w'.heap.size ∧ a.spot = none

theorem FreshE.later {l : List Nat} {w w1 w2 : World} {ao : Option Addr} {cap : Nat} {ys : List UInt8} (h : FreshE w1 w2 ao cap ys) (hk : Kept l w w1) : FreshE w w2 ao cap ys :=
  ⟨h.1, h.2.1, h.2.2.1, fun a ha => ⟨Nat.le_trans hk.size (h.2.2.2 a ha).1, (h.2.2.2 a ha).2.1, (h.2.2.2 a ha).2.2⟩⟩

/-- bytes.Clone: nil of nil; else new memory with the same bytes. -/
theorem clone_anyE (ao : Option Addr) (n cap : Nat) (xs : List UInt8) (w : World) (hxn : xs.length = n) (hm : xs.length ≤ 140737488355328) (h : Sl w ao xs) (hn : ao = none → xs = [] ∧ cap = 0) :
    Calls Try.prog 92 #[.slice ao n cap] w fun e w' => ∃ ao' cap', e = .returned (.slice ao' n cap') ∧ FreshE w w' ao' cap' xs ∧ Kept [] w w' := by
  subst hxn
  cases ao with
  | none =>
    obtain ⟨rfl, rfl⟩ := hn rfl
    refine (clone_nilE w).mono fun e w' ⟨he, hw⟩ => ?_
    subst he; subst hw
    exact ⟨none, 0, rfl, ⟨Sl.nil _ _, Nat.le_refl _, fun _ => ⟨rfl, rfl⟩, by simp⟩, Kept.refl _ _⟩
  | some a =>
    refine (clone_someE a cap xs w hm ?_).mono fun e w' ⟨g, cap', he, hg, hgs, hcap, hsl, hk, _⟩ => ?_
    · by_cases h0 : xs = []
      · subst h0
        intro j u hu
        simp [bys] at hu
      · obtain ⟨b, off, e', hb, hc⟩ := h.open h0
        cases e'
        refine Sl.cells fun i hi => ?_
        rw [World.cell?_alloc_lt _ _ _ hb]
        exact hc i hi
    · exact ⟨_, cap', he, ⟨hsl, hcap, by simp, by simp [hg, hgs]⟩, hk⟩

/-- The same, with what lies behind it. -/
theorem clone_ownE (ao : Option Addr) (n cap : Nat) (xs : List UInt8) (w : World) (hxn : xs.length = n) (hm : xs.length ≤ 140737488355328) (h : Sl w ao xs) (hn : ao = none → xs = [] ∧ cap = 0) :
    Calls Try.prog 92 #[.slice ao n cap] w fun e w' => ∃ ao' cap', e = .returned (.slice ao' n cap') ∧ w'.ownsRow w.heap.size 5 1 (.slice ao' n cap') n (bys xs) ∧ Kept [] w w' := by
  subst hxn
  cases ao with
  | none =>
    obtain ⟨rfl, rfl⟩ := hn rfl
    refine (clone_nilE w).mono fun e w' ⟨he, hw⟩ => ?_
    subst he; subst hw
    exact ⟨none, 0, rfl, World.ownsRow_nil _ _ _ _, Kept.refl _ _⟩
  | some a =>
    refine (clone_someE a cap xs w hm ?_).mono fun e w' ⟨g, cap', he, hg, hgs, hcap, hsl, hk, ho⟩ => ?_
    · by_cases h0 : xs = []
      · subst h0
        intro j u hu
        simp [bys] at hu
      · obtain ⟨b, off, e', hb, hc⟩ := h.open h0
        cases e'
        refine Sl.cells fun i hi => ?_
        rw [World.cell?_alloc_lt _ _ _ hb]
        exact hc i hi
    · exact ⟨_, cap', he, ho, hk⟩
end

section
open Go.RowKit
set_option linter.unusedVariables false
set_option linter.unusedSimpArgs false

/-- A window in a row gone round. -/
def wnd (ring : List UInt8) (f : Nat) : List UInt8 := ring.drop f ++ ring.take f

theorem wnd_zero (ring : List UInt8) : wnd ring 0 = ring := by simp [wnd]
theorem wnd_length (ring : List UInt8) (f : Nat) : (wnd ring f).length = ring.length := by simp [wnd]; omega
theorem wnd_head (ring : List UInt8) (f : Nat) (hf : f < ring.length) : wnd ring f = ring.getD f 0 :: (ring.drop (f + 1) ++ ring.take f) := by
  unfold wnd
  rw [List.drop_eq_getElem_cons hf]
  simp only [List.getD_eq_getElem?_getD, List.getElem?_eq_getElem hf, Option.getD_some, List.cons_append]
theorem wnd_push (ring : List UInt8) (f : Nat) (hf : f < ring.length) (c : UInt8) : wnd (ring.set f c) ((f + 1) % ring.length) = (ring.drop (f + 1) ++ ring.take f) ++ [c] := by
  by_cases h : f + 1 < ring.length
  · rw [Nat.mod_eq_of_lt h]
    unfold wnd
    rw [List.drop_set_of_lt (by omega), List.append_assoc]
    congr 1
    rw [List.take_succ_eq_append_getElem (by simpa using hf), List.getElem_set_self]
    congr 1
    apply List.ext_getElem
    · simp
    · intro i h1 h2
      simp at h1
      rw [List.getElem_take, List.getElem_take, List.getElem_set_ne (by omega)]
  · have : f + 1 = ring.length := by omega
    rw [this, Nat.mod_self, wnd_zero, List.drop_of_length_le (Nat.le_refl _), List.nil_append]
    apply List.ext_getElem
    · simp; omega
    · intro i h1 h2
      simp at h1
      by_cases hi : i = f
      · subst hi; rw [List.getElem_set_self, List.getElem_append_right (by simp; omega)]; simp
      · rw [List.getElem_set_ne (by omega), List.getElem_append_left (by simp; omega)]
        simp

/-- A Roll lies at block p, its bytes at block g: ring, gone round to f. -/
structure Rl (w : World) (p g cap f : Nat) (ring : List UInt8) : Prop where
  c0 : w.cell? ⟨p, 0, none⟩ = some (.slice (some ⟨g, 0, none⟩) ring.length cap)
  c1 : w.cell? ⟨p, 1, none⟩ = some (.int .i64 f)
  c2 : w.cell? ⟨p, 2, none⟩ = some (.int .u16 (Rol.pa (wnd ring f)))
  c3 : w.cell? ⟨p, 3, none⟩ = some (.int .u16 (Rol.pb (wnd ring f)))
  fp : ∀ i, w.frozen? ⟨p, i, none⟩ = false
  cg : ∀ i, i < ring.length → w.cell? ⟨g, i, none⟩ = some (.int .u8 (ring.getD i 0).toNat)
  fg : ∀ i, w.frozen? ⟨g, i, none⟩ = false
  ne : g ≠ p
  lt : f < ring.length
  small : ring.length ≤ 4096
  le : ring.length ≤ cap

/-- A Roll with this window. -/
def Ro (w : World) (p g : Nat) (win : List UInt8) : Prop := ∃ cap f ring, Rl w p g cap f ring ∧ wnd ring f = win

theorem Rl.kept {l : List Nat} {w w' : World} {p g cap f : Nat} {ring : List UInt8} (h : Rl w p g cap f ring) (hk : Kept l w w') (hp : p ∉ l) (hg : g ∉ l) : Rl w' p g cap f ring := by
  have hgl : g < w.heap.size := World.block_lt_of_cell? _ _ (h.cg 0 (by have := h.lt; omega))
  have hpl : p < w.heap.size := World.block_lt_of_cell? _ _ h.c0
  exact ⟨hk.cellOf h.c0 hp, hk.cellOf h.c1 hp, hk.cellOf h.c2 hp, hk.cellOf h.c3 hp, fun i => (hk.frozen (p := ⟨p, i, none⟩) hpl hp).trans (h.fp i), fun i hi => hk.cellOf (h.cg i hi) hg, fun i => (hk.frozen (p := ⟨g, i, none⟩) hgl hg).trans (h.fg i), h.ne, h.lt, h.small, h.le⟩

theorem Ro.kept {l : List Nat} {w w' : World} {p g : Nat} {win : List UInt8} (h : Ro w p g win) (hk : Kept l w w') (hp : p ∉ l) (hg : g ∉ l) : Ro w' p g win := by
  obtain ⟨cap, f, ring, h, e⟩ := h
  exact ⟨cap, f, ring, h.kept hk hp hg, e⟩
theorem Ro.ltp {w : World} {p g : Nat} {win : List UInt8} (h : Ro w p g win) : p < w.heap.size := by
  obtain ⟨cap, f, ring, h, e⟩ := h
  exact World.block_lt_of_cell? _ _ h.c0
theorem Ro.ltg {w : World} {p g : Nat} {win : List UInt8} (h : Ro w p g win) : g < w.heap.size := by
  obtain ⟨cap, f, ring, h, e⟩ := h
  exact World.block_lt_of_cell? _ _ (h.cg 0 (by have := h.lt; omega))
theorem Ro.small {w : World} {p g : Nat} {win : List UInt8} (h : Ro w p g win) : 1 ≤ win.length ∧ win.length ≤ 4096 := by
  obtain ⟨cap, f, ring, h, e⟩ := h
  rw [← e, wnd_length]
  exact ⟨by have := h.lt; omega, h.small⟩
end

section
open Go.RowKit
set_option linter.unusedVariables false
set_option linter.unusedSimpArgs false

/-- A Roll's cells, whatever they say. -/
structure Rq (w : World) (p g cap n f a b : Nat) (ring : List UInt8) : Prop where
  c0 : w.cell? ⟨p, 0, none⟩ = some (.slice (some ⟨g, 0, none⟩) n cap)
  c1 : w.cell? ⟨p, 1, none⟩ = some (.int .i64 f)
  c2 : w.cell? ⟨p, 2, none⟩ = some (.int .u16 a)
  c3 : w.cell? ⟨p, 3, none⟩ = some (.int .u16 b)
  fp : ∀ i, w.frozen? ⟨p, i, none⟩ = false
  cg : ∀ i, i < n → w.cell? ⟨g, i, none⟩ = some (.int .u8 (ring.getD i 0).toNat)
  fg : ∀ i, w.frozen? ⟨g, i, none⟩ = false

theorem Rq.drewN {w : World} {p g cap n f a b : Nat} {ring : List UInt8} (h : Rq w p g cap n f a b ring) (k : Nat) : Rq (w.drewN k) p g cap n f a b ring := ⟨h.c0, h.c1, h.c2, h.c3, h.fp, h.cg, h.fg⟩
theorem Rq.drew {w : World} {p g cap n f a b : Nat} {ring : List UInt8} (h : Rq w p g cap n f a b ring) : Rq w.drew p g cap n f a b ring := ⟨h.c0, h.c1, h.c2, h.c3, h.fp, h.cg, h.fg⟩
theorem Rq.setg {w : World} {p g cap n f a b : Nat} {ring : List UInt8} (h : Rq w p g cap n f a b ring) (hne : g ≠ p) (hn : n = ring.length) (i : Nat) (hi : i < n) (c : UInt8) : Rq (w.setCell ⟨g, i, none⟩ (.int .u8 c.toNat)) p g cap n f a b (ring.set i c) := by
  have ne : ∀ j, (⟨g, i, none⟩ : Addr) ≠ ⟨p, j, none⟩ := fun j e => by injection e with e1; exact hne e1
  refine ⟨?_, ?_, ?_, ?_, ?_, ?_, ?_⟩
  · rw [World.cell?_setCell_other _ _ _ _ (ne 0)]; exact h.c0
  · rw [World.cell?_setCell_other _ _ _ _ (ne 1)]; exact h.c1
  · rw [World.cell?_setCell_other _ _ _ _ (ne 2)]; exact h.c2
  · rw [World.cell?_setCell_other _ _ _ _ (ne 3)]; exact h.c3
  · intro j; rw [World.frozen?_setCell]; exact h.fp j
  · intro j hj
    by_cases e : j = i
    · subst e
      rw [World.cell?_setCell_same _ _ _ (h.cg j hj)]
      simp [show j < ring.length by omega]
    · rw [World.cell?_setCell_other _ _ _ _ (by intro e'; injection e' with _ e2; exact e e2.symm), h.cg j hj]
      simp [List.getElem?_set_ne (Ne.symm e)]
  · intro j; rw [World.frozen?_setCell]; exact h.fg j
theorem Rq.setf {w : World} {p g cap n f a b : Nat} {ring : List UInt8} (h : Rq w p g cap n f a b ring) (hne : g ≠ p) (f' : Nat) : Rq (w.setCell ⟨p, 1, none⟩ (.int .i64 f')) p g cap n f' a b ring := by
  refine ⟨?_, ?_, ?_, ?_, ?_, ?_, ?_⟩
  · rw [World.cell?_setCell_other _ _ _ _ (by simp)]; exact h.c0
  · exact World.cell?_setCell_same _ _ _ h.c1
  · rw [World.cell?_setCell_other _ _ _ _ (by simp)]; exact h.c2
  · rw [World.cell?_setCell_other _ _ _ _ (by simp)]; exact h.c3
  · intro j; rw [World.frozen?_setCell]; exact h.fp j
  · intro j hj; rw [World.cell?_setCell_other _ _ _ _ (by intro e; injection e with e1; exact hne e1.symm)]; exact h.cg j hj
  · intro j; rw [World.frozen?_setCell]; exact h.fg j
theorem Rq.setab {w : World} {p g cap n f a b : Nat} {ring : List UInt8} (h : Rq w p g cap n f a b ring) (hne : g ≠ p) (a' b' : Nat) : Rq ((w.setCell ⟨p, 2, none⟩ (.int .u16 a')).setCell ⟨p, 3, none⟩ (.int .u16 b')) p g cap n f a' b' ring := by
  have e3 : (w.setCell ⟨p, 2, none⟩ (.int .u16 a')).cell? ⟨p, 3, none⟩ = some (.int .u16 b) := by rw [World.cell?_setCell_other _ _ _ _ (by simp)]; exact h.c3
  refine ⟨?_, ?_, ?_, ?_, ?_, ?_, ?_⟩
  · rw [World.cell?_setCell_other _ _ _ _ (by simp), World.cell?_setCell_other _ _ _ _ (by simp)]; exact h.c0
  · rw [World.cell?_setCell_other _ _ _ _ (by simp), World.cell?_setCell_other _ _ _ _ (by simp)]; exact h.c1
  · rw [World.cell?_setCell_other _ _ _ _ (by simp)]; exact World.cell?_setCell_same _ _ _ h.c2
  · exact World.cell?_setCell_same _ _ _ e3
  · intro j; rw [World.frozen?_setCell, World.frozen?_setCell]; exact h.fp j
  · intro j hj; rw [World.cell?_setCell_other _ _ _ _ (by intro e; injection e with e1; exact hne e1.symm), World.cell?_setCell_other _ _ _ _ (by intro e; injection e with e1; exact hne e1.symm)]; exact h.cg j hj
  · intro j; rw [World.frozen?_setCell, World.frozen?_setCell]; exact h.fg j
theorem Rq.kept {l : List Nat} {w w' : World} {p g cap n f a b : Nat} {ring : List UInt8} (h : Rq w p g cap n f a b ring) (hn : 0 < n) (hk : Kept l w w') (hp : p ∉ l) (hg : g ∉ l) : Rq w' p g cap n f a b ring := by
  have hgl : g < w.heap.size := World.block_lt_of_cell? _ _ (h.cg 0 hn)
  have hpl : p < w.heap.size := World.block_lt_of_cell? _ _ h.c0
  exact ⟨hk.cellOf h.c0 hp, hk.cellOf h.c1 hp, hk.cellOf h.c2 hp, hk.cellOf h.c3 hp, fun i => (hk.frozen (p := ⟨p, i, none⟩) hpl hp).trans (h.fp i), fun i hi => hk.cellOf (h.cg i hi) hg, fun i => (hk.frozen (p := ⟨g, i, none⟩) hgl hg).trans (h.fg i)⟩
end

section
open Go.RowKit
set_option linter.unusedVariables false
set_option linter.unusedSimpArgs false

theorem own_open {w : World} {base : Nat} {e : TypeId} {v : Value} {n : Nat} {xs : List UInt8} (h : w.ownsRow base e 1 v n (bys xs)) (hv : v ≠ .slice none 0 0) :
    ∃ g cap, v = .slice (some ⟨g, 0, none⟩) n cap ∧ base ≤ g ∧ g < w.heap.size ∧ n ≤ cap ∧ (∀ i, i < xs.length → w.cell? ⟨g, i, none⟩ = some (.int .u8 (xs.getD i 0).toNat)) ∧ ∀ i, w.frozen? ⟨g, i, none⟩ = false := by
  obtain ⟨g, cap, rfl, hb, hlt, hn, hs⟩ := own_sl h hv
  refine ⟨g, cap, rfl, hb, hlt, hn, fun i hi => ?_, fun i => ?_⟩
  · obtain ⟨b, off, e1, e2⟩ := hs i hi
    cases e1
    rwa [Nat.zero_add] at e2
  · rcases h.2 with ⟨h1, _⟩ | ⟨g', cap', cur, h1, _, hg, _⟩
    · cases h1
    · cases h1
      exact frozen_of_row _ _ _ _ _ hg

/-- A zero Roll at block p. -/
structure Rz (w : World) (p : Nat) : Prop where
  c0 : w.cell? ⟨p, 0, none⟩ = some (.slice none 0 0)
  c2 : w.cell? ⟨p, 2, none⟩ = some (.int .u16 0)
  c3 : w.cell? ⟨p, 3, none⟩ = some (.int .u16 0)

theorem Rz.kept {l : List Nat} {w w' : World} {p : Nat} (h : Rz w p) (hk : Kept l w w') (hp : p ∉ l) : Rz w' p :=
  ⟨hk.cellOf h.c0 hp, hk.cellOf h.c2 hp, hk.cellOf h.c3 hp⟩
end

end Go.Proofs.Ytmklodligplbaab
