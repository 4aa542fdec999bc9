import Derived.Laws.BitsAllLaws
import Derived.Test.YtngaimahhgmciabGreatDoorProg
import Derived.Test.YtngaimahhgmciabGreatDoorMemv
import Derived.Deep.QuietTactic
import Derived.BigQuiet
import Derived.Test.YtngaimahhgmciabGreatDoorNfv
import Derived.Laws.AppendOwnNone
import Derived.Deep.RegionWith
namespace Go.Proofs.YtngaimahhgmciabGreatDoor
section
namespace Pure
/-- The number that bytes begin with, from the k-th byte on, x gathered so far: the number, its bytes, an error. -/
def numGo (xs : List UInt8) : Nat → Nat → Nat → Nat × Nat × Nat
  | 0, _, _ => (0, 0, 11)
  | f + 1, k, x =>
    if k < xs.length then
      if (xs.getD k 0).toNat < 128 then
        if 2147483647 < x + (xs.getD k 0).toNat * 2 ^ (7 * k) ∨ (0 < k ∧ (xs.getD k 0).toNat = 0) then (0, 0, 11)
        else (x + (xs.getD k 0).toNat * 2 ^ (7 * k), k + 1, 0)
      else numGo xs f (k + 1) (x + ((xs.getD k 0).toNat - 128) * 2 ^ (7 * k))
    else (0, 0, 10)
def num (xs : List UInt8) : Nat × Nat × Nat := numGo xs 5 0 0

theorem numGo_short {xs : List UInt8} {f k x : Nat} (h : ¬ k < xs.length) : numGo xs (f + 1) k x = (0, 0, 10) := by simp only [numGo]; rw [if_neg h]
theorem numGo_bad {xs : List UInt8} {f k x : Nat} (h : k < xs.length) (h1 : (xs.getD k 0).toNat < 128) (h2 : 2147483647 < x + (xs.getD k 0).toNat * 2 ^ (7 * k) ∨ (0 < k ∧ (xs.getD k 0).toNat = 0)) : numGo xs (f + 1) k x = (0, 0, 11) := by
  simp only [numGo]; rw [if_pos h, if_pos h1, if_pos h2]
theorem numGo_good {xs : List UInt8} {f k x : Nat} (h : k < xs.length) (h1 : (xs.getD k 0).toNat < 128) (h2 : ¬ (2147483647 < x + (xs.getD k 0).toNat * 2 ^ (7 * k) ∨ (0 < k ∧ (xs.getD k 0).toNat = 0))) : numGo xs (f + 1) k x = (x + (xs.getD k 0).toNat * 2 ^ (7 * k), k + 1, 0) := by
  simp only [numGo]; rw [if_pos h, if_pos h1, if_neg h2]
theorem numGo_more {xs : List UInt8} {f k x : Nat} (h : k < xs.length) (h1 : ¬ (xs.getD k 0).toNat < 128) : numGo xs (f + 1) k x = numGo xs f (k + 1) (x + ((xs.getD k 0).toNat - 128) * 2 ^ (7 * k)) := by
  simp only [numGo]; rw [if_pos h, if_neg h1]

theorem pow_le4 {k : Nat} (h : k ≤ 4) : 2 ^ (7 * k) ≤ 268435456 := by
  obtain rfl | rfl | rfl | rfl | rfl : k = 0 ∨ k = 1 ∨ k = 2 ∨ k = 3 ∨ k = 4 := by omega
  all_goals decide

/-- What is read is a number, its bytes lie there; an error is told alone. -/
theorem numGo_facts (xs : List UInt8) : ∀ f k x, let r := numGo xs f k x; (r.2.2 = 0 ∧ r.1 ≤ 2147483647 ∧ r.2.1 ≤ xs.length ∧ k < r.2.1 ∧ r.2.1 ≤ k + f) ∨ (r.1 = 0 ∧ r.2.1 = 0 ∧ (r.2.2 = 10 ∨ r.2.2 = 11))
  | 0, k, x => by simp [numGo]
  | f + 1, k, x => by
    simp only [numGo]
    split
    · rename_i h
      split
      · split
        · simp
        · left; dsimp only; omega
      · have := numGo_facts xs f (k + 1) (x + ((xs.getD k 0).toNat - 128) * 2 ^ (7 * k))
        simp only at this ⊢
        omega
    · simp
theorem num_facts (xs : List UInt8) : ((num xs).2.2 = 0 ∧ (num xs).1 ≤ 2147483647 ∧ (num xs).2.1 ≤ xs.length ∧ 0 < (num xs).2.1 ∧ (num xs).2.1 ≤ 5) ∨ ((num xs).1 = 0 ∧ (num xs).2.1 = 0 ∧ ((num xs).2.2 = 10 ∨ (num xs).2.2 = 11)) := by
  have := numGo_facts xs 5 0 0
  simpa [num] using this

/-- A number of bytes, the highest first. -/
def be (l : List UInt8) : Nat := l.foldl (fun v c => 256 * v + c.toNat) 0
theorem be_snoc (l : List UInt8) (c : UInt8) : be (l ++ [c]) = 256 * be l + c.toNat := by simp [be]
theorem be_lt (l : List UInt8) : be l < 256 ^ l.length := by
  have : ∀ (l : List UInt8) (v : Nat) (m : Nat), v < m → l.foldl (fun v c => 256 * v + c.toNat) v < m * 256 ^ l.length := by
    intro l
    induction l with
    | nil => intro v m h; simpa using h
    | cons c l ih =>
      intro v m h
      have hc := UInt8.toNat_lt c
      have := ih (256 * v + c.toNat) (m * 256) (by omega)
      simp only [List.foldl_cons, List.length_cons, Nat.pow_succ]
      rw [show m * (256 ^ l.length * 256) = m * 256 * 256 ^ l.length by rw [Nat.mul_assoc, Nat.mul_comm (256 ^ l.length)]]
      exact this
  simpa [be] using this l 0 1 (by omega)
theorem i64_or_join (v c : Nat) (hv : v < 4294967296) (hc : c < 256) : bits .or .i64 ((v : Int) * 256) (c : Int) = ((256 * v + c : Nat) : Int) := by
  rw [show ((v : Int) * 256) = ((256 * v : Nat) : Int) by omega]
  show IntKind.i64.wrap ((BitVec.ofInt 64 ((256 * v : Nat) : Int) ||| BitVec.ofInt 64 (c : Int)).toNat : Int) = _
  rw [BitVec.toNat_or, ofInt_u64 _ (by omega), ofInt_u64 _ (by omega), nat_join 8 (256 * v) c (by omega) (by omega)]
  simp [IntKind.wrap, IntKind.bits, IntKind.signed]
  split <;> omega

/-- The shortest form of a number. -/
def enc (v : Nat) : List UInt8 := if h : v < 128 then [UInt8.ofNat v] else UInt8.ofNat (v % 128 + 128) :: enc (v / 128)
termination_by v
decreasing_by omega
theorem enc_small {v : Nat} (h : v < 128) : enc v = [UInt8.ofNat v] := by rw [enc, dif_pos h]
theorem enc_more {v : Nat} (h : ¬ v < 128) : enc v = UInt8.ofNat (v % 128 + 128) :: enc (v / 128) := by rw [enc, dif_neg h]
theorem enc_len (v : Nat) : ∀ k, v < 128 ^ (k + 1) → (enc v).length ≤ k + 1 := by
  intro k
  induction k generalizing v with
  | zero => intro h; rw [enc_small (by simpa using h)]; simp
  | succ k ih =>
    intro h
    by_cases h1 : v < 128
    · rw [enc_small h1]; simp
    · rw [enc_more h1]
      have := ih (v / 128) (by rw [Nat.div_lt_iff_lt_mul (by omega)]; rw [Nat.pow_succ] at h; exact h)
      simp; omega
theorem enc_len5 {v : Nat} (h : v ≤ 2147483647) : (enc v).length ≤ 5 := enc_len v 4 (by omega)
theorem toNat_ofNat_small {n : Nat} (h : n < 256) : (UInt8.ofNat n).toNat = n := by
  simp [UInt8.toNat_ofNat', Nat.mod_eq_of_lt h]

/-- A number of so many bytes, the highest first. -/
def fix (v : Nat) : Nat → List UInt8
  | 0 => []
  | k + 1 => UInt8.ofNat (v / 256 ^ k % 256) :: fix v k
theorem fix_len (v k : Nat) : (fix v k).length = k := by induction k with | zero => rfl | succ k ih => simp [fix, ih]
end Pure
end

section
open Go.RowKit
set_option linter.unusedVariables false

theorem ret_num {a b c : Int} {n : Nat × Nat × Nat} (h1 : a = n.1) (h2 : b = n.2.1) (h3 : c = n.2.2) :
    Ending.returned (.tuple #[.int .i64 a, .int .i64 b, .int .i64 c]) = .returned (.tuple #[.int .i64 n.1, .int .i64 n.2.1, .int .i64 n.2.2]) := by rw [h1, h2, h3]

set_option maxHeartbeats 800000 in
set_option maxRecDepth 100000 in
theorem shortest_some (b off len cap : Nat) (xs : List UInt8) (w : World) (hm : len ≤ 4611686018427387904) (hl : xs.length = len) (hc : ∀ i, i < xs.length → w.cell? ⟨b, off + i, none⟩ = some (.int .u8 (xs.getD i 0).toNat)) :
    Calls Tryz.prog 86 #[.slice (some ⟨b, off, none⟩) len cap] w fun e w' => e = .returned (.tuple #[.int .i64 (Pure.num xs).1, .int .i64 (Pure.num xs).2.1, .int .i64 (Pure.num xs).2.2]) ∧ w' = w := by
  go_enter Tryz.func86, Tryz.ntmps86
  go_wp2
  go_step3
  go_wp2
  go_step3
  go_wp2
  go_loop [5, 6] (fun v i => ∃ k x : Nat, k ≤ 5 ∧ k ≤ len ∧ i = .int .i64 k ∧ v = .int .i64 x ∧ x < 2 ^ (7 * k) ∧ Hid (Pure.num xs = Pure.numGo xs (5 - k) k x)) (fun _ i => 5 - (intOf i).toNat)
  case atStart => exact ⟨0, 0, by omega, Nat.zero_le _, rfl, rfl, by simp, rfl⟩
  case round =>
    obtain ⟨k, x, hk5, hk, rfl, rfl, hx, HR⟩ := hrel
    by_cases h5 : k = 5
    · subst h5
      have HR' : Hid (Pure.num xs = (0, 0, 11)) := HR.out
      clear hx HR hc
      go_wp2
      go_ret3
      exact ⟨ret_num (by rw [HR'.out]; rfl) (by rw [HR'.out]; rfl) (by rw [HR'.out]; rfl), rfl⟩
    · have g5 : ((k : Int) == 5) = false := by simp; omega
      obtain ⟨f, hf⟩ : ∃ f, 5 - k = f + 1 := ⟨4 - k, by omega⟩
      have hp := Pure.pow_le4 (show k ≤ 4 by omega)
      by_cases hlt : k < len
      · have g6 : ((k : Int) == (len : Int)) = false := by simp; omega
        have hcell := hc k (by omega)
        have hcb : (xs.getD k 0).toNat < 256 := UInt8.toNat_lt _
        clear hc
        by_cases h128 : (xs.getD k 0).toNat < 128
        · obtain ⟨m, hmm⟩ : ∃ m, m = (xs.getD k 0).toNat * 2 ^ (7 * k) := ⟨_, rfl⟩
          have hml : m ≤ 127 * 268435456 := by rw [hmm]; exact Nat.mul_le_mul (by omega) hp
          have hsh : (((xs.getD k 0).toNat : Int) * 2 ^ (7 * k)) = (m : Int) := by rw [hmm]; simp
          have hxl : x < 268435456 := by omega
          by_cases hbad : 2147483647 < x + m ∨ (0 < k ∧ (xs.getD k 0).toNat = 0)
          · have HR' : Hid (Pure.num xs = (0, 0, 11)) := by
              have := HR.out
              rw [hf, Pure.numGo_bad (by omega) h128 (by rw [← hmm]; exact hbad)] at this
              exact this
            clear HR hmm hx hf hp
            generalize (xs.getD k 0).toNat = c at hcell hcb h128 hsh hbad
            by_cases hbig : 2147483647 < x + m
            · clear hbad
              go_wp2
              go_ret3
              exact ⟨ret_num (by rw [HR'.out]; rfl) (by rw [HR'.out]; rfl) (by rw [HR'.out]; rfl), rfl⟩
            · obtain ⟨hk0, rfl⟩ : 0 < k ∧ c = 0 := by omega
              clear hbad
              go_wp2
              go_ret3
              exact ⟨ret_num (by rw [HR'.out]; rfl) (by rw [HR'.out]; rfl) (by rw [HR'.out]; rfl), rfl⟩
          · have HR' : Hid (Pure.num xs = (x + m, k + 1, 0)) := by
              have := HR.out
              rw [hf, Pure.numGo_good (by omega) h128 (by rw [← hmm]; exact hbad), ← hmm] at this
              exact this
            clear HR hmm hx hf hp
            generalize (xs.getD k 0).toNat = c at hcell hcb h128 hsh hbad
            have hsm : x + m ≤ 2147483647 := by omega
            by_cases hk0 : 0 < k
            · have hc0 : ((c : Int) == 0) = false := by simp; omega
              clear hbad
              go_wp2
              go_ret3
              exact ⟨ret_num (by rw [HR'.out]; simp) (by rw [HR'.out]; simp) (by rw [HR'.out]; rfl), rfl⟩
            · clear hbad
              go_wp2
              go_ret3
              exact ⟨ret_num (by rw [HR'.out]; simp) (by rw [HR'.out]; simp) (by rw [HR'.out]; rfl), rfl⟩
        · obtain ⟨m, hmm⟩ : ∃ m, m = ((xs.getD k 0).toNat - 128) * 2 ^ (7 * k) := ⟨_, rfl⟩
          have hml : m ≤ 127 * 268435456 := by rw [hmm]; exact Nat.mul_le_mul (by omega) hp
          have hml2 : m ≤ 127 * 2 ^ (7 * k) := by rw [hmm]; exact Nat.mul_le_mul (by omega) (Nat.le_refl _)
          have hsh : ((((xs.getD k 0).toNat : Int) - 128) * 2 ^ (7 * k)) = (m : Int) := by
            rw [hmm, show (((xs.getD k 0).toNat : Int) - 128) = (((xs.getD k 0).toNat - 128 : Nat) : Int) by omega]; simp
          have hxl : x < 268435456 := by omega
          have HR' : Hid (Pure.num xs = Pure.numGo xs (5 - (k + 1)) (k + 1) (x + m)) := by
            have := HR.out
            rw [hf, Pure.numGo_more (by omega) h128, ← hmm] at this
            rw [show 5 - (k + 1) = f by omega]
            exact this
          have HB : Hid (x + m < 2 ^ (7 * (k + 1))) := by
            have : 2 ^ (7 * (k + 1)) = 128 * 2 ^ (7 * k) := by rw [show 7 * (k + 1) = 7 * k + 7 by omega, Nat.pow_add]; omega
            show _ < _
            omega
          clear HR hmm hx hf hp hml2
          generalize (xs.getD k 0).toNat = c at hcell hcb h128 hsh
          go_wp2
          go_round
          case rel => exact ⟨k + 1, x + m, by omega, by omega, by go_num, by go_num, HB.out, HR'⟩
          case measure => simp [intOf]; omega
      · have g6 : ((k : Int) == (len : Int)) = true := by simp; omega
        have HR' : Hid (Pure.num xs = (0, 0, 10)) := by
          have := HR.out
          rw [hf, Pure.numGo_short (by omega)] at this
          exact this
        clear hx HR hc hf hp
        go_wp2
        go_ret3
        exact ⟨ret_num (by rw [HR'.out]; rfl) (by rw [HR'.out]; rfl) (by rw [HR'.out]; rfl), rfl⟩

set_option maxHeartbeats 800000 in
set_option maxRecDepth 100000 in
theorem shortest_empty (ao : Option Addr) (cap : Nat) (w : World) :
    Calls Tryz.prog 86 #[.slice ao 0 cap] w fun e w' => e = .returned (.tuple #[.int .i64 (Pure.num []).1, .int .i64 (Pure.num []).2.1, .int .i64 (Pure.num []).2.2]) ∧ w' = w := by
  go_enter Tryz.func86, Tryz.ntmps86
  go_wp2
  go_step3
  go_wp2
  go_step3
  go_wp2
  go_loop [5, 6] (fun v i => i = .int .i64 0 ∧ v = .int .i64 0) (fun _ i => 0)
  case atStart => exact ⟨rfl, rfl⟩
  case round =>
    obtain ⟨rfl, rfl⟩ := hrel
    go_wp2
    go_ret3
    exact ⟨ret_num rfl rfl rfl, rfl⟩

/-- code.shortest: the number that bytes begin with. -/
theorem shortest_any (ao : Option Addr) (cap : Nat) (xs : List UInt8) (w : World) (hm : xs.length ≤ 4611686018427387904) (h : Sl w ao xs) :
    Calls Tryz.prog 86 #[.slice ao xs.length cap] w fun e w' => e = .returned (.tuple #[.int .i64 (Pure.num xs).1, .int .i64 (Pure.num xs).2.1, .int .i64 (Pure.num xs).2.2]) ∧ w' = w := by
  by_cases hn : xs = []
  · subst hn
    exact shortest_empty ao cap w
  · obtain ⟨b, off, rfl, hb, hc⟩ := h.open hn
    exact shortest_some b off xs.length cap xs w hm rfl hc

theorem shortest_n (ao : Option Addr) (n cap : Nat) (xs : List UInt8) (w : World) (hn : xs.length = n) (hm : xs.length ≤ 4611686018427387904) (h : Sl w ao xs) :
    Calls Tryz.prog 86 #[.slice ao n cap] w fun e w' => e = .returned (.tuple #[.int .i64 (Pure.num xs).1, .int .i64 (Pure.num xs).2.1, .int .i64 (Pure.num xs).2.2]) ∧ w' = w := by
  subst hn
  exact shortest_any ao cap xs w hm h
end

section
open Go.RowKit
set_option linter.unusedVariables false

theorem Tryz.infoByte : (Tryz.prog.info? 5).map (fun i => (i.zero, i.size, i.bytes)) = some (some (.int .u8 0), 1, 1) := by kernel_rfl

set_option maxHeartbeats 400000 in
set_option maxRecDepth 100000 in
theorem clone_nil (w : World) :
    Calls Tryz.prog 29 #[.slice none 0 0] w fun e w' => e = .returned (.slice none 0 0) ∧ w' = w := by
  have hnil := fun (w : World) (a : Option Addr) (n c : Nat) => Lib.run_eql_slice_nil (P := Tryz.prog) w 33 5 a n c 0 0 Tryz.underlying33
  go_enter Tryz.func29, Tryz.ntmps29
  go_wp2
  go_ret
  exact ⟨rfl, rfl⟩

set_option maxHeartbeats 400000 in
set_option maxRecDepth 100000 in
theorem clone_some (ad : Addr) (cap : Nat) (xs : List UInt8) (w : World) (hm : xs.length ≤ 140737488355328) (hc : ∀ j u, (bys xs)[j]? = some u → (w.alloc (.cells #[] 5)).cell? (ad.add j) = some u) :
    Calls Tryz.prog 29 #[.slice (some ad) xs.length cap] w fun e w' => ∃ g cap', e = .returned (.slice (some ⟨g, 0, none⟩) xs.length cap') ∧ w.heap.size ≤ g ∧ g < w'.heap.size ∧ xs.length ≤ cap' ∧ Sl w' (some ⟨g, 0, none⟩) xs ∧ Kept [] w w' ∧ w'.ownsRow w.heap.size 5 1 (.slice (some ⟨g, 0, none⟩) xs.length cap') xs.length (bys xs) := by
  obtain ⟨i0, hi, hz0, hz1, hz2⟩ := info_parts Tryz.infoByte
  have hnil := fun (w : World) (a : Option Addr) (n c : Nat) => Lib.run_eql_slice_nil (P := Tryz.prog) w 33 5 a n c 0 0 Tryz.underlying33
  go_enter Tryz.func29, Tryz.ntmps29
  go_wp2_with (at_builtin; refine wpList_append_own _ rfl _ _ 33 rfl w.heap.size 5 i0 (.int .u8 0) 1 1 Tryz.underlying33 hi hz0 hz1 hz2 rfl (by decide) _ 0 [] rfl (World.ownsRow_made w #[] 0 (Nat.le_refl _) (by decide) rfl) ad xs.length cap (bys xs) rfl (by simp [bys_length]) hc (bys_oneCell xs) ?c3 ?c4 ?c5 ?_)
  case c3 => unfold maxLen; omega
  case c4 => omega
  case c5 => simp
  intro v' w1 hown hgrow hnn
  obtain ⟨g, cap', hv, hg, hgs, hcap, hsl⟩ := own_sl hown hnn
  have hk : Kept [] w w1 := ((Kept.refl [] w).alloc _).grown hgrow (by intro k hk hlt; simp [Value.ownBlock] at hk; omega)
  have HOW : Hid (w1.ownsRow w.heap.size 5 1 (.slice (some ⟨g, 0, none⟩) xs.length cap') xs.length (bys xs)) := by
    have h := hown
    rw [hv] at h
    exact h
  rw [hv]
  clear hown hgrow hnn hv hnil hc
  go_wp2
  go_ret
  exact ⟨g, cap', rfl, hg, hgs, hcap, hsl, hk, HOW.out⟩

/-- What a call answers as new memory. -/
def Fresh (w w' : World) (ao : Option Addr) (cap : Nat) (ys : List UInt8) : Prop :=
  Sl w' ao ys ∧ ys.length ≤ cap ∧ (ao = none → ys = [] ∧ cap = 0) ∧ ∀ a, ao = some a → w.heap.size ≤ a.block ∧ a.block < w'.heap.size ∧ a.spot = none

theorem Fresh.later {l : List Nat} {w w1 w2 : World} {ao : Option Addr} {cap : Nat} {ys : List UInt8} (h : Fresh w1 w2 ao cap ys) (hk : Kept l w w1) : Fresh w w2 ao cap ys :=
  ⟨h.1, h.2.1, h.2.2.1, fun a ha => ⟨Nat.le_trans hk.size (h.2.2.2 a ha).1, (h.2.2.2 a ha).2.1, (h.2.2.2 a ha).2.2⟩⟩

/-- bytes.Clone: nil of nil; else new memory with the same bytes. -/
theorem clone_any (ao : Option Addr) (n cap : Nat) (xs : List UInt8) (w : World) (hxn : xs.length = n) (hm : xs.length ≤ 140737488355328) (h : Sl w ao xs) (hn : ao = none → xs = [] ∧ cap = 0) :
    Calls Tryz.prog 29 #[.slice ao n cap] w fun e w' => ∃ ao' cap', e = .returned (.slice ao' n cap') ∧ Fresh w w' ao' cap' xs ∧ Kept [] w w' := by
  subst hxn
  cases ao with
  | none =>
    obtain ⟨rfl, rfl⟩ := hn rfl
    refine (clone_nil w).mono fun e w' ⟨he, hw⟩ => ?_
    subst he; subst hw
    exact ⟨none, 0, rfl, ⟨Sl.nil _ _, Nat.le_refl _, fun _ => ⟨rfl, rfl⟩, by simp⟩, Kept.refl _ _⟩
  | some a =>
    refine (clone_some a cap xs w hm ?_).mono fun e w' ⟨g, cap', he, hg, hgs, hcap, hsl, hk, _⟩ => ?_
    · by_cases h0 : xs = []
      · subst h0
        intro j u hu
        simp [bys] at hu
      · obtain ⟨b, off, e', hb, hc⟩ := h.open h0
        cases e'
        refine Sl.cells fun i hi => ?_
        rw [World.cell?_alloc_lt _ _ _ hb]
        exact hc i hi
    · exact ⟨_, cap', he, ⟨hsl, hcap, by simp, by simp [hg, hgs]⟩, hk⟩

/-- The same, with what lies behind it. -/
theorem clone_own (ao : Option Addr) (n cap : Nat) (xs : List UInt8) (w : World) (hxn : xs.length = n) (hm : xs.length ≤ 140737488355328) (h : Sl w ao xs) (hn : ao = none → xs = [] ∧ cap = 0) :
    Calls Tryz.prog 29 #[.slice ao n cap] w fun e w' => ∃ ao' cap', e = .returned (.slice ao' n cap') ∧ w'.ownsRow w.heap.size 5 1 (.slice ao' n cap') n (bys xs) ∧ Kept [] w w' := by
  subst hxn
  cases ao with
  | none =>
    obtain ⟨rfl, rfl⟩ := hn rfl
    refine (clone_nil w).mono fun e w' ⟨he, hw⟩ => ?_
    subst he; subst hw
    exact ⟨none, 0, rfl, World.ownsRow_nil _ _ _ _, Kept.refl _ _⟩
  | some a =>
    refine (clone_some a cap xs w hm ?_).mono fun e w' ⟨g, cap', he, hg, hgs, hcap, hsl, hk, ho⟩ => ?_
    · by_cases h0 : xs = []
      · subst h0
        intro j u hu
        simp [bys] at hu
      · obtain ⟨b, off, e', hb, hc⟩ := h.open h0
        cases e'
        refine Sl.cells fun i hi => ?_
        rw [World.cell?_alloc_lt _ _ _ hb]
        exact hc i hi
    · exact ⟨_, cap', he, ho, hk⟩
end

section
open Go.RowKit
set_option linter.unusedVariables false

set_option maxHeartbeats 800000 in
set_option maxRecDepth 100000 in
theorem rnumber_some {w : World} {b : Nat} {p : Int} {g off cap : Nat} {xs : List UInt8} {at_ : Nat} (h : Rd w b 0 p (some ⟨g, off, none⟩) cap xs at_) :
    Calls Tryz.prog 77 #[.pointer (some ⟨b, 0, none⟩)] w fun e' w' => e' = .returned (.int .i64 (Pure.num (xs.drop at_)).1) ∧ Kept [b] w w' ∧ Rd w' b (Pure.num (xs.drop at_)).2.2 (if (Pure.num (xs.drop at_)).2.2 = 0 then p else at_) (some ⟨g, off, none⟩) cap xs (at_ + (Pure.num (xs.drop at_)).2.1) := by
  have h0 := h.c0
  have h1 := h.c1
  have h2 := h.c2
  have h3 := h.c3
  have hs := h.small
  have hl := h.le
  have hlc := h.lc
  have f0 := h.f0
  have f1 := h.f1
  have f3 := h.f3
  have H := (show Hid _ from h)
  clear h
  have hsl := (H.out.sl.drop at_ cap hl hlc)
  have hf := Pure.num_facts (xs.drop at_)
  simp only [List.length_drop] at hf
  by_cases he : (Pure.num (xs.drop at_)).2.2 = 0
  · have hne : (((Pure.num (xs.drop at_)).2.2 : Int) != 0) = false := by simp [he]
    go_enter Tryz.func77, Tryz.ntmps77
    go_wp2
    go_quiet ((go_at_call 86; exact Calls.quiet_of_same (shortest_n _ _ _ (xs.drop at_) _ (by simp) (by simp; omega) (hsl.drewN _))))
    generalize (if cap = at_ then _ else _) = ao2
    go_wp2
    go_ret
    refine ⟨rfl, kept_moved _ _ _ _, ?_⟩
    have := (H.out.drewN nq).moved (at_ + (Pure.num (xs.drop at_)).2.1) (by omega)
    simpa using this
  · have hne : (((Pure.num (xs.drop at_)).2.2 : Int) != 0) = true := by simp [he]
    go_enter Tryz.func77, Tryz.ntmps77
    go_wp2
    go_quiet ((go_at_call 86; exact Calls.quiet_of_same (shortest_n _ _ _ (xs.drop at_) _ (by simp) (by simp; omega) (hsl.drewN _))))
    generalize (if cap = at_ then _ else _) = ao2
    go_wp2
    go_region_with (go_at_call 84; refine (refuse_ok _ p _ _ _ (by simpa using h0) (by simpa using h1) (by simpa using f0) (by simpa using f1)).mono ?_; rintro e w' ⟨rfl, rfl⟩)
    go_wp2
    go_ret
    have z : (Pure.num (xs.drop at_)).1 = 0 ∧ (Pure.num (xs.drop at_)).2.1 = 0 := by omega
    refine ⟨ret_int (by omega), kept_refused _ _ _ _ _, ?_⟩
    have := (H.out.drewN (nq + 1)).refused (Pure.num (xs.drop at_)).2.2 at_
    rw [z.2, Nat.add_zero]
    exact this

set_option maxHeartbeats 800000 in
set_option maxRecDepth 100000 in
theorem rnumber_none {w : World} {b : Nat} {p : Int} (h : Rd w b 0 p none 0 [] 0) :
    Calls Tryz.prog 77 #[.pointer (some ⟨b, 0, none⟩)] w fun e' w' => e' = .returned (.int .i64 0) ∧ Kept [b] w w' ∧ Rd w' b 10 0 none 0 [] 0 := by
  have h0 := h.c0
  have h1 := h.c1
  have h2 := h.c2
  have h3 := h.c3
  have f0 := h.f0
  have f1 := h.f1
  have f3 := h.f3
  have H := (show Hid _ from h)
  clear h
  simp only [List.length_nil] at h2
  go_enter Tryz.func77, Tryz.ntmps77
  go_wp2
  go_quiet ((go_at_call 86; exact Calls.quiet_of_same (shortest_n _ _ _ [] _ rfl (by simp) (Sl.nil _ _))))
  go_wp2
  go_region_with (go_at_call 84; refine (refuse_ok _ p _ _ _ (by simpa using h0) (by simpa using h1) (by simpa using f0) (by simpa using f1)).mono ?_; rintro e w' ⟨rfl, rfl⟩)
  go_wp2
  go_ret
  refine ⟨rfl, kept_refused _ _ _ _ _, ?_⟩
  exact (H.out.drewN (nq + 1)).refused 10 0

/-- Reader.Number where nothing went wrong yet. -/
theorem rnumber_ok {w : World} {b : Nat} {p : Int} {ao : Option Addr} {cap : Nat} {xs : List UInt8} {at_ : Nat} (h : Rd w b 0 p ao cap xs at_) :
    Calls Tryz.prog 77 #[.pointer (some ⟨b, 0, none⟩)] w fun e' w' => e' = .returned (.int .i64 (Pure.num (xs.drop at_)).1) ∧ Kept [b] w w' ∧ Rd w' b (Pure.num (xs.drop at_)).2.2 (if (Pure.num (xs.drop at_)).2.2 = 0 then p else at_) ao cap xs (at_ + (Pure.num (xs.drop at_)).2.1) := by
  cases ao with
  | none =>
    obtain ⟨rfl, rfl⟩ := h.nil rfl
    obtain rfl : at_ = 0 := by have := h.le; simpa using this
    exact rnumber_none h
  | some a =>
    obtain ⟨g, off, spot⟩ := a
    obtain rfl : spot = none := h.spot _ rfl
    exact rnumber_some h

set_option maxHeartbeats 400000 in
theorem rnumber_bad {w : World} {b : Nat} {e : Int} (h0 : w.cell? ⟨b, 0, none⟩ = some (.int .i64 e)) (he : (e != 0) = true) :
    Calls Tryz.prog 77 #[.pointer (some ⟨b, 0, none⟩)] w fun e' w' => e' = .returned (.int .i64 0) ∧ w' = w := by
  go_enter Tryz.func77, Tryz.ntmps77
  go_wp2
  go_ret
  exact ⟨rfl, rfl⟩

set_option maxHeartbeats 400000 in
theorem rnumber_nil (w : World) :
    Calls Tryz.prog 77 #[.pointer none] w fun e' w' => e' = .returned (.int .i64 0) ∧ w' = w := by
  go_enter Tryz.func77, Tryz.ntmps77
  go_wp2
  go_ret
  exact ⟨rfl, rfl⟩
end

section
open Go.RowKit
set_option linter.unusedVariables false

theorem ret_slice {a : Option Addr} {n m c : Nat} (h : n = m) : Ending.returned (.slice a n c) = .returned (.slice a m c) := by rw [h]
theorem kept_refused0 (w : World) (b : Nat) (u v : Value) : Kept [b] w ((w.setCell ⟨b, 0, none⟩ u).setCell ⟨b, 1, none⟩ v) := ((Kept.refl [b] w).setCell (by simp) _).setCell (by simp) _

set_option maxHeartbeats 800000 in
set_option maxRecDepth 100000 in
theorem take_short {w : World} {b : Nat} {p : Int} {ao : Option Addr} {cap : Nat} {xs : List UInt8} {at_ : Nat} (h : Rd w b 0 p ao cap xs at_) (n began : Int) (hn : (xs.length - at_ : Nat) < n) :
    Calls Tryz.prog 85 #[.pointer (some ⟨b, 0, none⟩), .int .i64 n, .int .i64 began] w fun e' w' => e' = .returned (.slice none 0 0) ∧ Kept [b] w w' ∧ Rd w' b 10 began ao cap xs at_ := by
  have h0 := h.c0
  have h1 := h.c1
  have f0 := h.f0
  have f1 := h.f1
  have H := (show Hid _ from h)
  clear h
  go_enter Tryz.func85, Tryz.ntmps85
  go_wp2_with (first | (go_at_call 81; refine (left_ok H.out).mono ?_; rintro e w' ⟨rfl, nq, rfl⟩) | (go_at_call 84; refine (refuse_ok _ p _ _ _ (by simpa using h0) (by simpa using h1) (by simpa using f0) (by simpa using f1)).mono ?_; rintro e w' ⟨rfl, rfl⟩))
  go_ret
  exact ⟨rfl, kept_refused _ _ _ _ _, (H.out.drewN _).refused 10 began⟩

set_option maxHeartbeats 800000 in
set_option maxRecDepth 100000 in
theorem take_some {w : World} {b : Nat} {p : Int} {g off cap : Nat} {xs : List UInt8} {at_ : Nat} (h : Rd w b 0 p (some ⟨g, off, none⟩) cap xs at_) (n : Nat) (began : Int) (hn : n ≤ xs.length - at_) :
    Calls Tryz.prog 85 #[.pointer (some ⟨b, 0, none⟩), .int .i64 n, .int .i64 began] w fun e' w' => ∃ ao' cap', e' = .returned (.slice ao' n cap') ∧ Sl w' ao' ((xs.drop at_).take n) ∧ (ao' = none → n = 0 ∧ cap' = 0) ∧ (∀ a, ao' = some a → a.spot = none) ∧ Kept [b] w w' ∧ Rd w' b 0 p (some ⟨g, off, none⟩) cap xs (at_ + n) := by
  have h0 := h.c0
  have h2 := h.c2
  have h3 := h.c3
  have hs := h.small
  have hl := h.le
  have hlc := h.lc
  have f3 := h.f3
  have hsl := (h.sl.drop at_ cap hl hlc).take n
  have hsp : ∃ a, (if cap = at_ then some (⟨g, off, none⟩ : Addr) else some ⟨g, off + at_, none⟩) = some a ∧ a.spot = none ∧ a.block = g := by
    by_cases hc : cap = at_
    · rw [if_pos hc]; exact ⟨_, rfl, rfl, rfl⟩
    · rw [if_neg hc]; exact ⟨_, rfl, rfl, rfl⟩
  have hap := h.apart _ rfl
  have H := (show Hid _ from h)
  clear h
  go_enter Tryz.func85, Tryz.ntmps85
  go_wp2_with (go_at_call 81; refine (left_ok H.out).mono ?_; rintro e w' ⟨rfl, nq0, rfl⟩)
  go_quiet (fail)
  generalize (if cap = at_ then some (⟨g, off, none⟩ : Addr) else some ⟨g, off + at_, none⟩) = ao2 at hsl hsp ⊢
  obtain ⟨a2, rfl, hsp1, hsp2⟩ := hsp
  go_wp2
  go_ret
  refine ⟨some a2, cap - at_, ret_slice (by omega), ?_, by simp, by rintro a ⟨⟩; exact hsp1, kept_moved _ _ _ _, ?_⟩
  · exact hsl.kept (kept_moved _ _ _ _) (by rintro _ a ⟨⟩; simp [hsp2]; exact hap)
  · have := (H.out.drewN (nq0 + nq)).moved (at_ + n) (by omega)
    simpa using this

set_option maxHeartbeats 800000 in
set_option maxRecDepth 100000 in
theorem take_none {w : World} {b : Nat} {p : Int} (h : Rd w b 0 p none 0 [] 0) (began : Int) :
    Calls Tryz.prog 85 #[.pointer (some ⟨b, 0, none⟩), .int .i64 0, .int .i64 began] w fun e' w' => e' = .returned (.slice none 0 0) ∧ Kept [b] w w' ∧ Rd w' b 0 p none 0 [] 0 := by
  have h0 := h.c0
  have h2 := h.c2
  have h3 := h.c3
  have f3 := h.f3
  have H := (show Hid _ from h)
  clear h
  simp only [List.length_nil] at h2
  go_enter Tryz.func85, Tryz.ntmps85
  go_wp2_with (go_at_call 81; refine (left_ok H.out).mono ?_; rintro e w' ⟨rfl, nq0, rfl⟩)
  go_quiet (fail)
  go_wp2
  go_ret
  refine ⟨rfl, kept_moved _ _ _ _, ?_⟩
  exact (H.out.drewN (nq0 + nq)).moved 0 (by simp)

/-- Reader.take of bytes that are left. -/
theorem take_ok {w : World} {b : Nat} {p : Int} {ao : Option Addr} {cap : Nat} {xs : List UInt8} {at_ : Nat} (h : Rd w b 0 p ao cap xs at_) (n : Nat) (began : Int) (hn : n ≤ xs.length - at_) :
    Calls Tryz.prog 85 #[.pointer (some ⟨b, 0, none⟩), .int .i64 n, .int .i64 began] w fun e' w' => ∃ ao' cap', e' = .returned (.slice ao' n cap') ∧ Sl w' ao' ((xs.drop at_).take n) ∧ (ao' = none → n = 0 ∧ cap' = 0) ∧ (∀ a, ao' = some a → a.spot = none) ∧ Kept [b] w w' ∧ Rd w' b 0 p ao cap xs (at_ + n) := by
  cases ao with
  | none =>
    obtain ⟨rfl, rfl⟩ := h.nil rfl
    obtain rfl : at_ = 0 := by have := h.le; simpa using this
    obtain rfl : n = 0 := by simpa using hn
    refine (take_none h began).mono fun e w' ⟨he, hk, hr⟩ => ?_
    exact ⟨none, 0, he, Sl.nil _ _, fun _ => ⟨rfl, rfl⟩, by simp, hk, hr⟩
  | some a =>
    obtain ⟨g, off, spot⟩ := a
    obtain rfl : spot = none := h.spot _ rfl
    exact take_some h n began hn
end

section
open Go.RowKit
set_option linter.unusedVariables false

set_option maxHeartbeats 800000 in
set_option maxRecDepth 100000 in
theorem raw_neg {w : World} {b : Nat} {p : Int} {ao : Option Addr} {cap : Nat} {xs : List UInt8} {at_ : Nat} (h : Rd w b 0 p ao cap xs at_) (n : Int) (hn : n < 0) :
    Calls Tryz.prog 89 #[.pointer (some ⟨b, 0, none⟩), .int .i64 n] w fun e' w' => e' = .returned (.slice none 0 0) ∧ Kept [b] w w' ∧ Rd w' b 1 at_ ao cap xs at_ := by
  have h0 := h.c0
  have h1 := h.c1
  have h3 := h.c3
  have hs := h.small
  have hl := h.le
  have hlc := h.lc
  have f0 := h.f0
  have f1 := h.f1
  have H := (show Hid _ from h)
  clear h
  go_enter Tryz.func89, Tryz.ntmps89
  go_wp2
  go_region_with (go_at_call 84; refine (refuse_ok _ p _ _ _ (by simpa using h0) (by simpa using h1) (by simpa using f0) (by simpa using f1)).mono ?_; rintro e w' ⟨rfl, rfl⟩)
  go_wp2
  go_ret
  exact ⟨rfl, kept_refused _ _ 1 _ _, (H.out.drewN 1).refused 1 at_⟩

set_option maxHeartbeats 800000 in
set_option maxRecDepth 100000 in
theorem raw_short {w : World} {b : Nat} {p : Int} {ao : Option Addr} {cap : Nat} {xs : List UInt8} {at_ : Nat} (h : Rd w b 0 p ao cap xs at_) (n : Int) (hn0 : 0 ≤ n) (hn : (xs.length - at_ : Nat) < n) :
    Calls Tryz.prog 89 #[.pointer (some ⟨b, 0, none⟩), .int .i64 n] w fun e' w' => e' = .returned (.slice none 0 0) ∧ Kept [b] w w' ∧ Rd w' b 10 at_ ao cap xs at_ := by
  have h0 := h.c0
  have h1 := h.c1
  have h3 := h.c3
  have hs := h.small
  have hl := h.le
  have hlc := h.lc
  have f0 := h.f0
  have f1 := h.f1
  have H := (show Hid _ from h)
  clear h
  go_enter Tryz.func89, Tryz.ntmps89
  go_wp2_with (first | (go_at_call 83; refine (rclosed_ok _ _ h0).mono ?_; rintro e w' ⟨rfl, hw⟩; obtain rfl := hw.symm) | (go_at_call 85; refine (take_short H.out _ _ hn).mono ?_; rintro e w' ⟨rfl, hk, hr⟩) | (go_at_call 29; refine (clone_nil _).mono ?_; rintro e w' ⟨rfl, rfl⟩))
  go_ret
  exact ⟨rfl, by assumption, by assumption⟩

set_option maxHeartbeats 800000 in
set_option maxRecDepth 100000 in
theorem raw_ok {w : World} {b : Nat} {p : Int} {ao : Option Addr} {cap : Nat} {xs : List UInt8} {at_ : Nat} (h : Rd w b 0 p ao cap xs at_) (n : Nat) (hn : n ≤ xs.length - at_) :
    Calls Tryz.prog 89 #[.pointer (some ⟨b, 0, none⟩), .int .i64 n] w fun e' w' => ∃ ao' cap', e' = .returned (.slice ao' n cap') ∧ Fresh w w' ao' cap' ((xs.drop at_).take n) ∧ Kept [b] w w' ∧ Rd w' b 0 p ao cap xs (at_ + n) := by
  have h0 := h.c0
  have h1 := h.c1
  have h3 := h.c3
  have hs := h.small
  have hl := h.le
  have hlc := h.lc
  have f0 := h.f0
  have f1 := h.f1
  have H := (show Hid _ from h)
  clear h
  go_enter Tryz.func89, Tryz.ntmps89
  go_wp2_with (first | (go_at_call 83; refine (rclosed_ok _ _ h0).mono ?_; rintro e w' ⟨rfl, hw⟩; obtain rfl := hw.symm) | (go_at_call 85; refine (take_ok H.out _ _ hn).mono ?_; rintro e w1 ⟨ao1, cap1, rfl, hsl1, hnn1, hsp1, hk1, hr1⟩))
  refine (clone_any ao1 n cap1 ((xs.drop at_).take n) w1 (by simp; omega) (by simp; omega) hsl1 (fun h => by obtain ⟨rfl, rfl⟩ := hnn1 h; simp)).mono ?_
  rintro e w2 ⟨ao2, cap2, rfl, hfr2, hk2⟩
  go_wp2
  go_ret
  exact ⟨ao2, cap2, rfl, hfr2.later hk1, hk1.trans hk2 (by simp), hr1.kept hk2 (by simp) (by simp)⟩
end

end Go.Proofs.YtngaimahhgmciabGreatDoor
