import Derived.Test.YtmklodligplbaaaGreatDh4m
import Derived.Test.YtmklodligplbaaaGreatProg
import Derived.Test.YtmklodligplbaaaGreatMemm
import Derived.Deep.MidRow
import Derived.StillTailTactics
import Derived.Deep.RegionHeld3
import Derived.Laws.CopyOwn
import Derived.Deep.QuietTactic
import Derived.BigQuiet
import Derived.Laws.AppendOwnNone
open Go.RowKit
set_option linter.unusedVariables false
set_option linter.unusedSimpArgs false
set_option maxRecDepth 100000
set_option maxHeartbeats 51200000
namespace Go.Proofs.YtmklodligplbaaaGreat
section
abbrev pv (a b : Nat) : Value := .agg #[.int .u16 a, .int .u16 b]
theorem wrap_u16 (n : Nat) : IntKind.u16.wrap (n : Int) = ((n % 65536 : Nat) : Int) := by
 simp [IntKind.wrap, IntKind.bits, IntKind.signed]
structure PRel (w wr : World) (R P : Nat) (a b : Nat) : Prop where
 row : wr.heap[P]? = some (.cells #[.int .u16 a, .int .u16 b] 166 (0, 0))
 res : wr.heap[R]? = some (.cells #[.int .u16 0, .int .u16 0] 166 (0, 0))
 kept : Kept [] w wr
theorem Tryz.zeroParts (W : World) : (zeroValue 166).run Tryz.prog W = .ok (.agg #[.int .u16 0, .int .u16 0]) W := by kernel_rfl
theorem PRel.ca {w wr : World} {R P a b : Nat} (h : PRel w wr R P a b) : wr.cell? ⟨P, 0, none⟩ = some (.int .u16 a) := by rw [cell_of_row _ _ _ _ _ _ h.row]; rfl
theorem PRel.cb {w wr : World} {R P a b : Nat} (h : PRel w wr R P a b) : wr.cell? ⟨P, 1, none⟩ = some (.int .u16 b) := by rw [cell_of_row _ _ _ _ _ _ h.row]; rfl
theorem PRel.fr {w wr : World} {R P a b : Nat} (h : PRel w wr R P a b) (i : Nat) : wr.frozen? ⟨P, i, none⟩ = false := frozen_of_row _ _ _ _ _ h.row
theorem PRel.set0 {w wr : World} {R P a b : Nat} (h : PRel w wr R P a b) (hRP : R ≠ P) (hP : w.heap.size <= P) (a' : Nat) : PRel w (wr.setCell ⟨P, 0, none⟩ (.int .u16 a')) R P a' b := by
 refine ⟨?_, ?_, h.kept.setCell (by simp; omega) _⟩
 ·rw [heap_setCell_same _ _ _ _ _ _ h.row]; rfl
 ·rw [heap_setCell_other _ _ _ _ (by simpa using hRP)]; exact h.res
theorem PRel.set1 {w wr : World} {R P a b : Nat} (h : PRel w wr R P a b) (hRP : R ≠ P) (hP : w.heap.size <= P) (b' : Nat) : PRel w (wr.setCell ⟨P, 1, none⟩ (.int .u16 b')) R P a b' := by
 refine ⟨?_, ?_, h.kept.setCell (by simp; omega) _⟩
 ·rw [heap_setCell_same _ _ _ _ _ _ h.row]; rfl
 ·rw [heap_setCell_other _ _ _ _ (by simpa using hRP)]; exact h.res
theorem partsOf_some (b off n cap : Nat) (xs : List UInt8) (w : World) (hn : xs.length = n) (hm : n <= 9223372036854775806) (hbw : n ≠ 0 -> b < w.heap.size) (hc : ∀ i, i < n -> w.cell? ⟨b, off + i, none⟩ = some (.int .u8 (xs.getD i 0).toNat)) :
  Calls Tryz.prog 111 #[.slice (some ⟨b, off, none⟩) n cap] w fun e w' => e = .returned (pv (Rol.pa xs) (Rol.pb xs)) ∧ Kept [] w w' := by
 have hzv := Tryz.zeroParts
 obtain ⟨P, hP⟩ : ∃ P, P = w.heap.size + 1 := ⟨_, rfl⟩
 have HI : Hid (PRel w ((w.alloc (.cells #[.int .u16 0, .int .u16 0] 166)).alloc (.cells #[.int .u16 0, .int .u16 0] 166)) w.heap.size (w.heap.size + 1) 0 0) := by
  refine ⟨?_, ?_, ((Kept.refl _ _).alloc _).alloc _⟩
  ·have := heap_alloc_new (w.alloc (.cells #[.int .u16 0, .int .u16 0] 166)) (.cells #[.int .u16 0, .int .u16 0] 166)
   simpa using this
  ·rw [Below.heap_alloc _ _ _ (by simp)]
   exact heap_alloc_new _ _
 have HN : Hid (xs.length = n) := hn
 have HC : Hid (∀ i, i < n -> w.cell? ⟨b, off + i, none⟩ = some (.int .u8 (xs.getD i 0).toNat)) := hc
 have HB : Hid (n ≠ 0 -> b < w.heap.size) := hbw
 clear hn hc hbw
 go_enter Tryz.func111, Tryz.ntmps111
 go_wp2
 go_loopw [8] (fun i wr => ∃ k : Nat, k <= n ∧ i = .int .i64 k ∧ Hid (PRel w wr w.heap.size (w.heap.size + 1) (Rol.pa (xs.take k)) (Rol.pb (xs.take k)))) (fun i wr => n - (intOf i).toNat)
 case atStart => exact ⟨0, Nat.zero_le _, rfl, HI⟩
 case round =>
  clear HI
  obtain ⟨k, hk, rfl, HR⟩ := hrel
  have ha := Rol.pa_lt (xs.take k)
  have hb := Rol.pb_lt (xs.take k)
  have ca := HR.out.ca
  have cb := HR.out.cb
  have fr0 := HR.out.fr 0
  have fr1 := HR.out.fr 1
  by_cases hlt : k < n
  ·have hcell : wr.cell? ⟨b, off + k, none⟩ = some (.int .u8 (xs.getD k 0).toNat) := HR.out.kept.cellOf (HC.out k hlt) (by simp)
   have hcb : (xs.getD k 0).toNat < 256 := UInt8.toNat_lt _
   have HA : Hid (Rol.pa (xs.take (k + 1)) = (Rol.pa (xs.take k) + (xs.getD k 0).toNat) % 65536) := by
    show _ = _
    rw [getD_take_snoc xs k (by rw [HN.out]; omega), Rol.pa_snoc]
   have HB : Hid (Rol.pb (xs.take (k + 1)) = (Rol.pb (xs.take k) + Rol.pa (xs.take (k + 1))) % 65536) := by
    show _ = _
    rw [getD_take_snoc xs k (by rw [HN.out]; omega), Rol.pb_snoc]
   generalize Rol.pa (xs.take k) = a at ha HA HR ca ⊢
   generalize Rol.pb (xs.take k) = b' at hb HB HR cb ⊢
   generalize (xs.getD k 0).toNat = c at hcell hcb HA
   have e1 : IntKind.u16.wrap ((a : Int) + c) = ((Rol.pa (xs.take (k + 1)) : Nat) : Int) := by rw [HA.out, <-wrap_u16]; congr 1
   have e2 : IntKind.u16.wrap ((b' : Int) + (Rol.pa (xs.take (k + 1)) : Nat)) = ((Rol.pb (xs.take (k + 1)) : Nat) : Int) := by rw [HB.out, <-wrap_u16]; congr 1
   have HR2 : Hid (PRel w ((wr.setCell ⟨w.heap.size + 1, 0, none⟩ (.int .u16 (Rol.pa (xs.take (k + 1)) : Nat))).setCell ⟨w.heap.size + 1, 1, none⟩ (.int .u16 (Rol.pb (xs.take (k + 1)) : Nat))) w.heap.size (w.heap.size + 1) (Rol.pa (xs.take (k + 1))) (Rol.pb (xs.take (k + 1)))) :=
    (HR.out.set0 (by omega) (by omega) _).set1 (by omega) (by omega) _
   clear HR HA HB
   go_wp2
   go_roundw
   case rel => exact ⟨k + 1, by omega, by go_num, HR2⟩
   case measure => simp [intOf]; omega
  ·obtain rfl : k = n := by omega
   have HT : Hid (xs.take k = xs) := List.take_of_length_le (by rw [HN.out]; omega)
   have cr0 : wr.cell? ⟨w.heap.size, 0, none⟩ = some (.int .u16 0) := by rw [cell_of_row _ _ _ _ _ _ HR.out.res]; rfl
   have cr1 : wr.cell? ⟨w.heap.size, 1, none⟩ = some (.int .u16 0) := by rw [cell_of_row _ _ _ _ _ _ HR.out.res]; rfl
   have fz0 : wr.frozen? ⟨w.heap.size, 0, none⟩ = false := frozen_of_row _ _ _ _ _ HR.out.res
   have fz1 : wr.frozen? ⟨w.heap.size, 1, none⟩ = false := frozen_of_row _ _ _ _ _ HR.out.res
   have HK := HR.out.kept
   clear HR HC HB HN
   go_wp2
   refine bodyPost_ret (v := pv (Rol.pa xs) (Rol.pb xs)) ?_ rfl ⟨rfl, (HK.setCell (by simp) _).setCell (by simp) _⟩
   rw [HT.out]
   simp [results, Tryz.results111, go_sem, cr0, cr1, fz0, fz1]
theorem partsOf_none (ao : Option Addr) (cap : Nat) (w : World) :
  Calls Tryz.prog 111 #[.slice ao 0 cap] w fun e w' => e = .returned (pv (Rol.pa []) (Rol.pb [])) ∧ Kept [] w w' := by
 have hzv := Tryz.zeroParts
 have HK : Kept [] w ((w.alloc (.cells #[.int .u16 0, .int .u16 0] 166)).alloc (.cells #[.int .u16 0, .int .u16 0] 166)) := ((Kept.refl _ _).alloc _).alloc _
 go_enter Tryz.func111, Tryz.ntmps111
 go_wp2
 go_loop [8] (fun i => i = .int .i64 0) (fun i => 0)
 case atStart => rfl
 case round =>
  subst hrel
  go_wp2
  refine bodyPost_ret (v := pv (Rol.pa []) (Rol.pb [])) ?_ rfl ⟨rfl, ?_⟩
  ·simp [results, Tryz.results111, go_sem, pv, Rol.pa_nil, Rol.pb_nil]
  ·first | exact HK | exact (HK.setCell (by simp) _).setCell (by simp) _
theorem partsOf_n (ao : Option Addr) (n cap : Nat) (xs : List UInt8) (w : World) (hn : xs.length = n) (hm : n <= 9223372036854775806) (h : Sl w ao xs) :
  Calls Tryz.prog 111 #[.slice ao n cap] w fun e w' => e = .returned (pv (Rol.pa xs) (Rol.pb xs)) ∧ Kept [] w w' := by
 by_cases h0 : xs = []
 ·subst h0
  obtain rfl : n = 0 := by simpa using hn.symm
  exact partsOf_none ao cap w
 ·obtain ⟨b, off, rfl, hb, hc⟩ := h.open h0
  exact partsOf_some b off n cap xs w hn hm (fun _ => hb) (fun i hi => hc i (by omega))
theorem i64_or_nat (a b : Nat) (ha : a < 65536) (hb : b < 65536) : bits .or .i64 ((b : Int) * 65536) (a : Int) = ((a + 65536 * b : Nat) : Int) := by
 show IntKind.i64.wrap ((BitVec.ofInt 64 ((b : Int) * 65536) ||| BitVec.ofInt 64 (a : Int)).toNat : Int) = _
 have e1 : ((b : Int) * 65536) = ((b * 65536 : Nat) : Int) := by omega
 rw [e1, BitVec.ofInt_natCast, BitVec.ofInt_natCast, BitVec.toNat_or, BitVec.toNat_ofNat, BitVec.toNat_ofNat, Nat.mod_eq_of_lt (by omega), Nat.mod_eq_of_lt (by omega)]
 have e2 : b * 65536 ||| a = a + 65536 * b := by
  have := Nat.two_pow_add_eq_or_of_lt (i := 16) (b := a) (by omega) b
  rw [show b * 65536 = 2 ^ 16 * b by omega, <-this]
  omega
 rw [e2]
 simp [IntKind.wrap, IntKind.bits, IntKind.signed]
 omega
theorem psum_any (a b : Nat) (w : World) (ha : a < 65536) (hb : b < 65536) :
  Calls Tryz.prog 112 #[pv a b] w fun e w' => e = .returned (.int .i64 ((a + 65536 * b : Nat) : Int)) ∧ Kept [] w w' := by
 have e1 := i64_or_nat a b ha hb
 have HK : Kept [] w (w.alloc (.cells #[.int .u16 a, .int .u16 b] 166)) := (Kept.refl _ _).alloc _
 go_enter Tryz.func112, Tryz.ntmps112
 go_wp2
 go_ret
 exact ⟨rfl, HK⟩
theorem wrap_u16_sub (a x : Nat) (hx : x <= 65536) : IntKind.u16.wrap ((a : Int) - (x : Int)) = (((a + 65536 - x) % 65536 : Nat) : Int) := by
 simp [IntKind.wrap, IntKind.bits, IntKind.signed]
 omega
theorem wrap_u16_add (a x : Nat) : IntKind.u16.wrap ((a : Int) + (x : Int)) = (((a + x) % 65536 : Nat) : Int) := by rw [<-wrap_u16]; congr 1
theorem wrap_u16_mul (n x : Nat) : IntKind.u16.wrap (((n % 65536 : Nat) : Int) * (x : Int)) = ((n * x % 65536 : Nat) : Int) := by
 rw [show ((n % 65536 : Nat) : Int) * (x : Int) = ((n % 65536 * x : Nat) : Int) by simp, wrap_u16, Nat.mod_mul_mod]
abbrev mva (a x c : Nat) : Nat := ((a + 65536 - x) % 65536 + c) % 65536
abbrev mvb (a b x c n : Nat) : Nat := ((b + 65536 - n * x % 65536) % 65536 + mva a x c) % 65536
theorem mva_move (x : UInt8) (l : List UInt8) (c : UInt8) : mva (Rol.pa (x :: l)) x.toNat c.toNat = Rol.pa (l ++ [c]) := by
 rw [Rol.pa_move x l c]; have := UInt8.toNat_lt x; unfold mva; omega
theorem mvb_move (x : UInt8) (l : List UInt8) (c : UInt8) (n : Nat) (hn : n = l.length + 1) : mvb (Rol.pa (x :: l)) (Rol.pb (x :: l)) x.toNat c.toNat n = Rol.pb (l ++ [c]) := by
 unfold mvb
 rw [mva_move, Rol.pb_move x l c, hn]
 omega
theorem moved_any (a b x c n : Nat) (w : World) (ha : a < 65536) (hb : b < 65536) (hx : x < 256) (hc : c < 256) (hn : n <= 9223372036854775807) :
  Calls Tryz.prog 118 #[pv a b, .int .u8 x, .int .u8 c, .int .i64 n] w fun e w' => e = .returned (pv (mva a x c) (mvb a b x c n)) ∧ Kept [] w w' := by
 have hzv := Tryz.zeroParts
 have e1 := wrap_u16_sub a x (by omega)
 have e2 := wrap_u16_add ((a + 65536 - x) % 65536) c
 have e3 := wrap_u16 n
 have e4 := wrap_u16_mul n x
 have e5 := wrap_u16_sub b (n * x % 65536) (by omega)
 have e6 := wrap_u16_add ((b + 65536 - n * x % 65536) % 65536) (mva a x c)
 have l1 : mva a x c < 65536 := Nat.mod_lt _ (by omega)
 have l2 : mvb a b x c n < 65536 := Nat.mod_lt _ (by omega)
 have e2' : IntKind.u16.wrap (((a + 65536 - x) % 65536 : Nat) + (c : Int)) = (mva a x c : Nat) := e2
 have e6' : IntKind.u16.wrap (((b + 65536 - n * x % 65536) % 65536 : Nat) + (mva a x c : Nat)) = ((mvb a b x c n : Nat) : Int) := e6
 clear e2 e6
 have q1 : (a + 65536 - x) % 65536 < 65536 := Nat.mod_lt _ (by omega)
 have q2 : n % 65536 < 65536 := Nat.mod_lt _ (by omega)
 have q3 : n * x % 65536 < 65536 := Nat.mod_lt _ (by omega)
 have q4 : (b + 65536 - n * x % 65536) % 65536 < 65536 := Nat.mod_lt _ (by omega)
 generalize mvb a b x c n = b2 at e6' l2 ⊢
 generalize mva a x c = a2 at e2' e6' l1 ⊢
 generalize (b + 65536 - n * x % 65536) % 65536 = m4 at e5 e6' q4
 generalize n * x % 65536 = m3 at e4 e5 q3
 generalize n % 65536 = m2 at e3 e4 q2
 generalize (a + 65536 - x) % 65536 = m1 at e1 e2' q1
 go_enter Tryz.func118, Tryz.ntmps118
 go_wp2
 refine bodyPost_ret (v := pv a2 b2) ?_ rfl ⟨rfl, ((Kept.refl _ _).alloc _).alloc _⟩
 simp [results, Tryz.results118, go_sem]
theorem rsum_n (ao : Option Addr) (n cap : Nat) (xs : List UInt8) (w : World) (hn : xs.length = n) (hm : n <= 9223372036854775806) (h : Sl w ao xs) :
  Calls Tryz.prog 85 #[.slice ao n cap] w fun e w' => e = .returned (.int .i64 (Rol.sum xs)) ∧ Kept [] w w' := by
 have ha := Rol.pa_lt xs
 have hb := Rol.pb_lt xs
 go_enter Tryz.func85, Tryz.ntmps85
 go_wp2_with (first | (go_at_call 111; refine (partsOf_n ao n cap xs _ hn hm h).mono ?_; rintro e w1 ⟨rfl, hk1⟩) | (go_at_call 112; refine (psum_any _ _ _ ha hb).mono ?_; rintro e w2 ⟨rfl, hk2⟩))
 go_ret
 exact ⟨rfl, hk1.tr hk2⟩
end

section
theorem Tryz.followsE : Tryz.prog.follows .mixedOrders = true := by kernel_rfl
end

section
theorem Tryz.infoByteE : (Tryz.prog.info? 5).map (fun i => (i.zero, i.size, i.bytes)) = some (some (.int .u8 0), 1, 1) := by kernel_rfl
theorem clone_nilE (w : World) :
  Calls Tryz.prog 116 #[.slice none 0 0] w fun e w' => e = .returned (.slice none 0 0) ∧ w' = w := by
 have hnil := fun (w : World) (a : Option Addr) (n c : Nat) => Lib.run_eql_slice_nil (P := Tryz.prog) w 22 5 a n c 0 0 Tryz.underlying22
 go_enter Tryz.func116, Tryz.ntmps116
 go_wp2
 go_ret
 exact ⟨rfl, rfl⟩
theorem clone_someE (ad : Addr) (cap : Nat) (xs : List UInt8) (w : World) (hm : xs.length <= 140737488355328) (hc : ∀ j u, (bys xs)[j]? = some u -> (w.alloc (.cells #[] 5)).cell? (ad.add j) = some u) :
  Calls Tryz.prog 116 #[.slice (some ad) xs.length cap] w fun e w' => ∃ g cap', e = .returned (.slice (some ⟨g, 0, none⟩) xs.length cap') ∧ w.heap.size <= g ∧ g < w'.heap.size ∧ xs.length <= cap' ∧ Sl w' (some ⟨g, 0, none⟩) xs ∧ Kept [] w w' ∧ w'.ownsRow w.heap.size 5 1 (.slice (some ⟨g, 0, none⟩) xs.length cap') xs.length (bys xs) := by
 obtain ⟨i0, hi, hz0, hz1, hz2⟩ := info_parts Tryz.infoByteE
 have hnil := fun (w : World) (a : Option Addr) (n c : Nat) => Lib.run_eql_slice_nil (P := Tryz.prog) w 22 5 a n c 0 0 Tryz.underlying22
 go_enter Tryz.func116, Tryz.ntmps116
 go_wp2_with (at_builtin; refine wpList_append_own _ rfl _ _ 22 rfl w.heap.size 5 i0 (.int .u8 0) 1 1 Tryz.underlying22 hi hz0 hz1 hz2 rfl (by decide) _ 0 [] rfl (World.ownsRow_made w #[] 0 (Nat.le_refl _) (by decide) rfl) ad xs.length cap (bys xs) rfl (by simp [bys_length]) hc (bys_oneCell xs) ?c3 ?c4 ?c5 ?_)
 case c3 => unfold maxLen; omega
 case c4 => omega
 case c5 => simp
 intro v' w1 hown hgrow hnn
 obtain ⟨g, cap', hv, hg, hgs, hcap, hsl⟩ := own_sl hown hnn
 have hk : Kept [] w w1 := ((Kept.refl [] w).alloc _).grown hgrow (by intro k hk hlt; simp [Value.ownBlock] at hk; omega)
 have HOW : Hid (w1.ownsRow w.heap.size 5 1 (.slice (some ⟨g, 0, none⟩) xs.length cap') xs.length (bys xs)) := by
  have h := hown
  rw [hv] at h
  exact h
 rw [hv]
 clear hown hgrow hnn hv hnil hc
 go_wp2
 go_ret
 exact ⟨g, cap', rfl, hg, hgs, hcap, hsl, hk, HOW.out⟩
theorem clone_ownE (ao : Option Addr) (n cap : Nat) (xs : List UInt8) (w : World) (hxn : xs.length = n) (hm : xs.length <= 140737488355328) (h : Sl w ao xs) (hn : ao = none -> xs = [] ∧ cap = 0) :
  Calls Tryz.prog 116 #[.slice ao n cap] w fun e w' => ∃ ao' cap', e = .returned (.slice ao' n cap') ∧ w'.ownsRow w.heap.size 5 1 (.slice ao' n cap') n (bys xs) ∧ Kept [] w w' := by
 subst hxn
 cases ao with
 | none =>
  obtain ⟨rfl, rfl⟩ := hn rfl
  refine (clone_nilE w).mono fun e w' ⟨he, hw⟩ => ?_
  subst he; subst hw
  exact ⟨none, 0, rfl, World.ownsRow_nil _ _ _ _, Kept.refl _ _⟩
 | some a =>
  refine (clone_someE a cap xs w hm ?_).mono fun e w' ⟨g, cap', he, hg, hgs, hcap, hsl, hk, ho⟩ => ?_
  ·by_cases h0 : xs = []
   ·subst h0
    intro j u hu
    simp [bys] at hu
   ·obtain ⟨b, off, e', hb, hc⟩ := h.open h0
    cases e'
    refine Sl.cells fun i hi => ?_
    rw [World.cell?_alloc_lt _ _ _ hb]
    exact hc i hi
  ·exact ⟨_, cap', he, ho, hk⟩
end

section

end

section

end

section
theorem own_open {w : World} {base : Nat} {e : TypeId} {v : Value} {n : Nat} {xs : List UInt8} (h : w.ownsRow base e 1 v n (bys xs)) (hv : v ≠ .slice none 0 0) :
  ∃ g cap, v = .slice (some ⟨g, 0, none⟩) n cap ∧ base <= g ∧ g < w.heap.size ∧ n <= cap ∧ (∀ i, i < xs.length -> w.cell? ⟨g, i, none⟩ = some (.int .u8 (xs.getD i 0).toNat)) ∧ ∀ i, w.frozen? ⟨g, i, none⟩ = false := by
 obtain ⟨g, cap, rfl, hb, hlt, hn, hs⟩ := own_sl h hv
 refine ⟨g, cap, rfl, hb, hlt, hn, fun i hi => ?_, fun i => ?_⟩
 ·obtain ⟨b, off, e1, e2⟩ := hs i hi
  cases e1
  rwa [Nat.zero_add] at e2
 ·rcases h.2 with ⟨h1, _⟩ | ⟨g', cap', cur, h1, _, hg, _⟩
  ·cases h1
  ·cases h1
   exact frozen_of_row _ _ _ _ _ hg
end

end Go.Proofs.YtmklodligplbaaaGreat
