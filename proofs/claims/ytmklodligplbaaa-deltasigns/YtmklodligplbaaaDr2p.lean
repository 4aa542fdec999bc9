/-
  Contract: freightref2.row.
-/
import Derived.Test.YtmklodligplbaaaDdap
namespace Go.Proofs.Ytmklodligplbaaa
open Go.RowKit
set_option linter.unusedVariables false
set_option linter.unusedSimpArgs false

theorem one_cells (w : World) (c : Value) (t : TypeId) (fr : Nat × Nat) : ∀ (j : Nat) (u : Value), [c][j]? = some u → (w.alloc (.cells #[c] t fr)).cell? ((⟨w.heap.size, 0, none⟩ : Addr).add j) = some u := by
  intro j u hu
  cases j with
  | zero =>
    simp at hu
    subst hu
    rw [Addr.add_mid, Nat.zero_add, World.cell?_alloc_mark]
    simp
  | succ j => simp at hu
theorem one_cells_at (w : World) (c : Value) (t : TypeId) (fr : Nat × Nat) (g : Nat) (hg : g = w.heap.size) : ∀ (j : Nat) (u : Value), [c][j]? = some u → (w.alloc (.cells #[c] t fr)).cell? ((⟨g, 0, none⟩ : Addr).add j) = some u := by
  subst hg
  exact one_cells w c t fr
theorem bys_one (c : UInt8) (n : Int) (h : n = (c.toNat : Int)) : [Value.int .u8 n] = bys [c] := by rw [h]; rfl

/-- A row that grows. -/
structure Grow (w wr : World) (v : Value) (ys : List UInt8) : Prop where
  own : wr.ownsRow w.heap.size 5 1 v ys.length (bys ys)
  kept : Kept [] w wr
theorem Grow.shape {w wr : World} {v : Value} {ys : List UInt8} (h : Grow w wr v ys) (hn : v ≠ .slice none 0 0) : ∃ g cap, v = .slice (some ⟨g, 0, none⟩) ys.length cap ∧ w.heap.size ≤ g ∧ g < wr.heap.size ∧ ys.length ≤ cap ∧ Sl wr (some ⟨g, 0, none⟩) ys := own_sl h.own hn
theorem Grow.one {w wr w1 : World} {v v' : Value} {ys : List UInt8} {o : Obj} {c : UInt8} {n : Int} (h : Grow w wr v ys) (hn : n = (c.toNat : Int))
    (hown : w1.ownsRow w.heap.size 5 1 v' (ys.length + 1) (bys ys ++ [.int .u8 n])) (hgrow : (wr.alloc o).grownBy w1 v.ownBlock) : Grow w w1 v' (ys ++ [c]) := by
  refine ⟨?_, (h.kept.alloc _).grown hgrow (fun k hk hlt => by have := (h.own.lt k hk).1; omega)⟩
  rw [bys_one c n hn, ← bys_append] at hown
  simpa using hown

theorem zeros_more (m n j : Nat) (hs : 9 ≤ n ∧ n ≤ 72 ∧ (m + n) % 64 = 0) (hj : j ≤ n - 9) : (m + 1 + j) % 64 = 56 ↔ j = n - 9 := by omega
theorem be8_get (N j : Nat) (hj : j < 8) : (Sha.be8 N).take (j + 1) = (Sha.be8 N).take j ++ [UInt8.ofNat (N / 256 ^ (7 - j) % 256)] := by
  rw [List.take_succ_eq_append_getElem (by rw [Sha.be8_len]; exact hj)]
  simp [Sha.be8]

set_option maxHeartbeats 800000 in
set_option maxRecDepth 100000 in
theorem row_any (ao : Option Addr) (cap : Nat) (m : List UInt8) (w : World) (hs : Sl w ao m) (hnl : ao = none → m = [] ∧ cap = 0) (hlen : m.length ≤ 140737488351232) (n : Nat) (hn : m.length = n) :
    Calls Try.prog 79 #[.slice ao n cap] w fun e w' => ∃ g c, e = .returned (.slice (some ⟨g, 0, none⟩) (n + Sha.size n) c) ∧ w.heap.size ≤ g ∧ g < w'.heap.size ∧ n + Sha.size n ≤ c ∧ Sl w' (some ⟨g, 0, none⟩) (m ++ Sha.ending n) ∧ Below w.heap.size w w' := by
  obtain ⟨i0, hi, hz0, hz1, hz2⟩ := info_parts Try.infoByteD
  have HN : Hid (m.length = n) := hn
  rw [hn] at hlen
  have hsrc : Hid (Sl (w.alloc (.cells #[] 5)) ao m) := hs.kept ((Kept.refl [] w).alloc _) (by simp)
  have HNL : Hid (ao = none → m = [] ∧ cap = 0) := hnl
  clear hnl
  clear hs hn
  have HZ : Hid (9 ≤ Sha.size n ∧ Sha.size n ≤ 72 ∧ (n + Sha.size n) % 64 = 0) := Sha.size_ge n
  have HE : Hid (Sha.ending n = 128 :: (List.replicate (Sha.size n - 9) 0 ++ Sha.be8 (8 * n % 18446744073709551616))) := rfl
  obtain ⟨z, hz⟩ : ∃ z, z = Sha.size n := ⟨_, rfl⟩
  rw [← hz] at HZ HE ⊢
  have hzz := HZ.out
  have h8 : 8 * n % 18446744073709551616 = 8 * n := by omega
  rw [h8] at HE
  clear h8 hz
  go_enter Try.func79, Try.ntmps79
  have hO0 : (w.alloc (.cells #[] 5)).ownsRow w.heap.size 5 1 (.slice (some ⟨w.heap.size, 0, none⟩) 0 0) 0 [] := World.ownsRow_made w #[] 0 (Nat.le_refl _) (by decide) rfl
  go_wp2_with (at_builtin; refine wpList_append_fresh _ rfl _ _ rfl w.heap.size w.heap.size rfl hO0 ao n cap m rfl hsrc.out HN.out HNL.out (by omega) (by simp) ?_)
  intro g0 c0 w0 hown hgrow
  have HR0 : Hid (Grow w w0 (.slice (some ⟨g0, 0, none⟩) n c0) m) := by
    refine ⟨?_, ((Kept.refl [] w).alloc _).grown hgrow (by intro k hk hlt; simp [Value.ownBlock] at hk; omega)⟩
    rw [HN.out]
    exact hown
  clear hown hgrow hsrc hO0 HNL
  go_wp2_with (at_builtin; refine wpList_append_own _ rfl _ _ 22 rfl w.heap.size 5 i0 (.int .u8 0) 1 1 Try.underlying22 hi hz0 hz1 hz2 rfl (by decide) _ _ _ rfl (HR0.out.own.alloc _) ⟨w0.heap.size, 0, none⟩ 1 1 [.int .u8 128] rfl rfl (one_cells_at _ _ _ _ _ rfl) (by simp [Value.oneCell']) ?c3 ?c4 ?c5 ?_)
  case c3 => rw [HN.out]; unfold maxLen; omega
  case c4 => rw [HN.out]; omega
  case c5 => have := HR0.out.kept.size; simp; omega
  intro v' w1 hown hgrow hnn
  have HR : Hid (Grow w w1 v' (m ++ 128 :: List.replicate 0 0)) := HR0.out.one rfl hown hgrow
  obtain ⟨g1, c1, hv1, _⟩ := HR.out.shape hnn
  rw [show (m ++ 128 :: List.replicate 0 (0 : UInt8)).length = n + 1 by rw [← HN.out]; simp] at hv1
  rw [hv1] at HR ⊢
  clear hown hgrow hnn HR0 hv1
  go_wp2
  go_loopw [3] (fun v wr => ∃ j g c : Nat, j ≤ z - 9 ∧ v = .slice (some ⟨g, 0, none⟩) (n + 1 + j) c ∧ Hid (Grow w wr (.slice (some ⟨g, 0, none⟩) (n + 1 + j) c) (m ++ 128 :: List.replicate j 0))) (fun v wr => n + z - lenOfD v)
  case atStart =>
    exact ⟨0, g1, c1, by omega, rfl, HR⟩
  case round =>
    clear HR
    obtain ⟨j, g, c, hj, rfl, HR⟩ := hrel
    have hlj : (m ++ 128 :: List.replicate j (0 : UInt8)).length = n + 1 + j := by rw [← HN.out]; simp; omega
    have hiff := zeros_more n z j hzz hj
    by_cases hlt : j < z - 9
    · have htm : ((n : Int) + 1 + (j : Int)).tmod 64 ≠ 56 := by
        rw [Int.tmod_eq_emod_of_nonneg (by omega)]
        intro h
        have : (n + 1 + j) % 64 = 56 := by omega
        have := hiff.1 this
        omega
      have htb : (((n : Int) + 1 + (j : Int)) % 64 != 56) = true := by
        rw [Int.tmod_eq_emod_of_nonneg (by omega)] at htm
        simpa using htm
      clear htm hiff
      have hown := HR.out.own.alloc (.cells #[.int .u8 0] 5)
      rw [hlj] at hown
      go_wp2_with (at_builtin; refine wpList_append_own _ rfl _ _ 22 rfl w.heap.size 5 i0 (.int .u8 0) 1 1 Try.underlying22 hi hz0 hz1 hz2 rfl (by decide) _ _ _ rfl hown ⟨wr.heap.size, 0, none⟩ 1 1 [.int .u8 0] rfl rfl (one_cells_at _ _ _ _ _ rfl) (by simp [Value.oneCell']) ?c3 ?c4 ?c5 ?_)
      case c3 => unfold maxLen; omega
      case c4 => omega
      case c5 => have := HR.out.kept.size; simp; omega
      intro v' w2 hown2 hgrow hnn
      have HR2 : Hid (Grow w w2 v' (m ++ 128 :: List.replicate (j + 1) 0)) := by
        have := HR.out.one (c := 0) rfl (by rw [hlj]; exact hown2) hgrow
        rw [List.append_assoc, List.cons_append, ← List.replicate_succ'] at this
        exact this
      obtain ⟨g2, c2, hv2, _⟩ := HR2.out.shape hnn
      have e : (m ++ 128 :: List.replicate (j + 1) (0 : UInt8)).length = n + 1 + (j + 1) := by rw [← HN.out]; simp; omega
      rw [e] at hv2
      rw [hv2] at HR2 ⊢
      clear hown hown2 hgrow hnn HR hv2 htb
      go_wp2
      go_roundw
      case rel => exact ⟨j + 1, g2, c2, by omega, rfl, HR2⟩
      case measure => simp only [lenOfD]; omega
    · have htm : ((n : Int) + 1 + (j : Int)).tmod 64 = 56 := by
        rw [Int.tmod_eq_emod_of_nonneg (by omega)]
        have := hiff.2 (by omega)
        omega
      clear hiff
      obtain rfl : j = z - 9 := by omega
      have htb : (((n : Int) + 1 + ((z - 9 : Nat) : Int)) % 64 != 56) = false := by
        rw [Int.tmod_eq_emod_of_nonneg (by omega)] at htm
        rw [htm]; rfl
      have HR0 : Hid (Grow w wr (.slice (some ⟨g, 0, none⟩) (n + 1 + (z - 9) + 0) c) (m ++ 128 :: List.replicate (z - 9) 0 ++ (Sha.be8 (8 * n)).take 0)) := by rw [List.take_zero, List.append_nil, Nat.add_zero]; exact HR.out
      obtain ⟨p, hp⟩ : ∃ p, p = z - 9 := ⟨_, rfl⟩
      obtain ⟨N, hN⟩ : ∃ N, N = 8 * n := ⟨_, rfl⟩
      have eN : 8 * (n : Int) = N := by omega
      rw [← hN] at HE HR0
      rw [← hp] at HE HR0 htm htb hlj ⊢
      have HPZ : Hid (p = z - 9) := hp
      have hp63 : p ≤ 63 := by omega
      have HNN : Hid (N = 8 * n) := hN
      clear HR hp hN hlt hj htm
      go_wp2
      go_loopw [3, 5] (fun v i wr => ∃ q g c : Nat, q ≤ 8 ∧ i = .int .i64 (7 - (q : Int)) ∧ v = .slice (some ⟨g, 0, none⟩) (n + 1 + p + q) c ∧ Hid (Grow w wr (.slice (some ⟨g, 0, none⟩) (n + 1 + p + q) c) (m ++ 128 :: List.replicate p 0 ++ (Sha.be8 N).take q))) (fun v i wr => (intOf i + 1).toNat)
      case atStart => exact ⟨0, g, c, by omega, rfl, rfl, HR0⟩
      case round =>
        clear HR0
        obtain ⟨q, g, c, hq, rfl, rfl, HR⟩ := hrel
        have hlq : (m ++ 128 :: List.replicate p (0 : UInt8) ++ (Sha.be8 N).take q).length = n + 1 + p + q := by rw [List.length_append, hlj, List.length_take, Sha.be8_len]; omega
        by_cases hlt : q < 8
        · obtain ⟨i, hi7⟩ : ∃ i, i = 7 - q := ⟨_, rfl⟩
          have ei : (7 : Int) - (q : Int) = i := by omega
          have hib : i ≤ 7 := by omega
          have h0i : (0 : Int) ≤ (i : Int) := by omega
          have hN63 : N ≤ 9223372036854775807 := by have := HNN.out; omega
          rw [ei]
          have HI7 : Hid (i = 7 - q) := hi7
          clear ei hi7
          have hown := HR.out.own.alloc (.cells #[.int .u8 ((N : Int) / 2 ^ (8 * i) % 256)] 5)
          rw [hlq] at hown
          go_wp2_with (at_builtin; refine wpList_append_own _ rfl _ _ 22 rfl w.heap.size 5 i0 (.int .u8 0) 1 1 Try.underlying22 hi hz0 hz1 hz2 rfl (by decide) _ _ _ rfl hown ⟨wr.heap.size, 0, none⟩ 1 1 [.int .u8 ((N : Int) / 2 ^ (8 * i) % 256)] rfl rfl (one_cells_at _ _ _ _ _ rfl) (by simp [Value.oneCell']) ?c3 ?c4 ?c5 ?_)
          case c3 => unfold maxLen; omega
          case c4 => omega
          case c5 => have := HR.out.kept.size; simp; omega
          intro v' w2 hown2 hgrow hnn
          have HR2 : Hid (Grow w w2 v' (m ++ 128 :: List.replicate p 0 ++ (Sha.be8 N).take (q + 1))) := by
            have h2 := hown2
            rw [← List.cons_append, ← List.append_assoc] at h2
            have := HR.out.one (c := UInt8.ofNat (N / 256 ^ (7 - q) % 256)) (n := (N : Int) / 2 ^ (8 * i) % 256) (by
              rw [u8_mod, ← HI7.out, show (2 : Int) ^ (8 * i) = ((256 ^ i : Nat) : Int) by rw [Int.natCast_pow, Int.pow_mul]; rfl]
              simp) (by rw [hlq]; exact h2) hgrow
            rw [List.append_assoc, ← be8_get N q hlt] at this
            exact this
          obtain ⟨g2, c2, hv2, _⟩ := HR2.out.shape hnn
          have e : (m ++ 128 :: List.replicate p (0 : UInt8) ++ (Sha.be8 N).take (q + 1)).length = n + 1 + p + (q + 1) := by rw [List.length_append, hlj, List.length_take, Sha.be8_len]; omega
          rw [e] at hv2
          rw [hv2] at HR2 ⊢
          clear hown hown2 hgrow hnn HR hv2
          go_wp2
          go_roundw
          case rel => exact ⟨q + 1, g2, c2, by omega, by have := HI7.out; congr 1 <;> omega, rfl, HR2⟩
          case measure => have := HI7.out; simp [intOf] <;> omega
        · obtain rfl : q = 8 := by omega
          obtain ⟨g2, c2, hv2, hg2, hg3, hc2, hsl2⟩ := HR.out.shape (by intro h; cases h)
          rw [hlq] at hv2
          cases hv2
          have HB := Kept.below HR.out.kept (Nat.le_refl _) (by simp)
          have hzp : n + 1 + p + 8 = n + z := by have := HPZ.out; omega
          rw [hlq, hzp] at hc2
          rw [List.take_of_length_le (by rw [Sha.be8_len]; exact Nat.le_refl _), List.append_assoc, List.cons_append, ← HE.out] at hsl2
          have FIN : Hid (w.heap.size ≤ g ∧ g < wr.heap.size ∧ n + z ≤ c ∧ Sl wr (some ⟨g, 0, none⟩) (m ++ Sha.ending n) ∧ Below w.heap.size w wr) := ⟨hg2, hg3, hc2, hsl2, HB⟩
          rw [hzp]
          clear HR hg2 hg3 hc2 hsl2 HB hlq hlj hzp
          go_wp2
          go_ret
          exact ⟨g, c, rfl, FIN.out⟩
end Go.Proofs.Ytmklodligplbaaa
