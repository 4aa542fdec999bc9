/-
  What Raw, Text and Data answer, with what lies behind it.
-/
import Derived.Test.YtjmameknbnflaabSt
import Derived.Test.YtjmameknbnflaabWs
namespace Go.Proofs.Ytjmameknbnflaab
open Go.RowKit
set_option linter.unusedVariables false
set_option linter.unusedSimpArgs false

theorem own_base {w : World} {b1 b2 : Nat} {e : TypeId} {size : Nat} {v : Value} {n : Nat} {xs : List Value} (h : w.ownsRow b1 e size v n xs) (hb : b2 ≤ b1) : w.ownsRow b2 e size v n xs := by
  refine ⟨h.1, ?_⟩
  rcases h.2 with h1 | ⟨g, cap, cur, h1, h2, h3⟩
  · exact .inl h1
  · exact .inr ⟨g, cap, cur, h1, Nat.le_trans hb h2, h3⟩

/-- A row that a call answers, in new memory of its own. -/
def OwnEnd (w w' : World) (e : Ending) (ys : List UInt8) : Prop := ∃ v, e = .returned v ∧ w'.ownsRow w.heap.size 5 1 v ys.length (bys ys)
theorem OwnEnd.nil (w w' : World) : OwnEnd w w' (.returned (.slice none 0 0)) [] := ⟨_, rfl, World.ownsRow_nil _ _ _ _⟩

set_option maxHeartbeats 800000 in
set_option maxRecDepth 100000 in
theorem raw_own {w : World} {b : Nat} {p : Int} {ao : Option Addr} {cap : Nat} {xs : List UInt8} {at_ : Nat} (h : Rd w b 0 p ao cap xs at_) (n : Nat) (hn : n ≤ xs.length - at_) :
    Calls Try.prog 18 #[.pointer (some ⟨b, 0, none⟩), .int .i64 n] w fun e' w' => ∃ ao' cap', e' = .returned (.slice ao' n cap') ∧ w'.ownsRow w.heap.size 5 1 (.slice ao' n cap') n (bys ((xs.drop at_).take n)) ∧ Kept [b] w w' ∧ Rd w' b 0 p ao cap xs (at_ + n) := by
  have h0 := h.c0
  have h1 := h.c1
  have h3 := h.c3
  have hs := h.small
  have hl := h.le
  have hlc := h.lc
  have f0 := h.f0
  have f1 := h.f1
  have H := (show Hid _ from h)
  clear h
  go_enter Try.func18, Try.ntmps18
  go_wp2_with (first | (go_at_call 41; refine (rclosed_ok _ _ h0).mono ?_; rintro e w' ⟨rfl, hw⟩; obtain rfl := hw.symm) | (go_at_call 43; refine (take_ok H.out _ _ hn).mono ?_; rintro e w1 ⟨ao1, cap1, rfl, hsl1, hnn1, hsp1, hk1, hr1⟩))
  refine (clone_own ao1 n cap1 ((xs.drop at_).take n) w1 (by simp; omega) (by simp; omega) hsl1 (fun h => by obtain ⟨rfl, rfl⟩ := hnn1 h; simp)).mono ?_
  rintro e w2 ⟨ao2, cap2, rfl, hfr2, hk2⟩
  go_wp2
  go_ret
  exact ⟨ao2, cap2, rfl, own_base hfr2 hk1.size, hk1.trans hk2 (by simp), hr1.kept hk2 (by simp) (by simp)⟩

set_option maxHeartbeats 800000 in
set_option maxRecDepth 100000 in
theorem text_own {w : World} {b : Nat} {p : Int} {ao : Option Addr} {cap : Nat} {xs : List UInt8} {at_ : Nat} (h : Rd w b 0 p ao cap xs at_) (most : Int) (hn : 0 ≤ most) {v k : Nat} (hr : Pure.num (xs.drop at_) = (v, k, 0)) (hv : v ≤ most) (hsh : v ≤ xs.length - (at_ + k)) :
    Calls Try.prog 19 #[.pointer (some ⟨b, 0, none⟩), .int .i64 most] w fun e' w' => ∃ ao' cap', e' = .returned (.slice ao' v cap') ∧ w'.ownsRow w.heap.size 5 1 (.slice ao' v cap') v (bys ((xs.drop (at_ + k)).take v)) ∧ Kept [b] w w' ∧ Rd w' b 0 p ao cap xs (at_ + k + v) := by
  have HR : Hid (Pure.num (xs.drop at_) = (v, k, 0)) := hr
  have h0 := h.c0
  have h1 := h.c1
  have h3 := h.c3
  have hs := h.small
  have hl := h.le
  have hlc := h.lc
  have f0 := h.f0
  have f1 := h.f1
  have H := (show Hid _ from h)
  clear h
  clear hr
  go_enter Try.func19, Try.ntmps19
  go_wp2_with (first | (go_at_call 41; refine (rclosed_ok _ _ h0).mono ?_; rintro e w' ⟨rfl, hw⟩; obtain rfl := hw.symm) | (go_at_call 15; refine (rnumber_as H.out HR.out).mono ?_; rintro e w1 ⟨rfl, hk1, hr1⟩; have c10 := hr1.c0; have c11 := hr1.c1; have g10 := hr1.f0; have g11 := hr1.f1; have H1 := (show Hid _ from hr1); clear hr1) | (go_at_call 44; refine (spoilt_any _ _ _ c10).mono ?_; rintro e w' ⟨rfl, hw⟩; obtain rfl := hw.symm) | (go_at_call 43; refine (take_ok H1.out _ _ hsh).mono ?_; rintro e w2 ⟨ao1, cap1, rfl, hsl1, hnn1, hsp1, hk2, hr2⟩))
  refine (clone_own ao1 v cap1 ((xs.drop (at_ + k)).take v) w2 (by simp; omega) (by simp; omega) hsl1 (fun h => by obtain ⟨rfl, rfl⟩ := hnn1 h; simp)).mono ?_
  rintro e w3 ⟨ao2, cap2, rfl, hfr2, hk3⟩
  go_wp2
  go_ret
  exact ⟨ao2, cap2, rfl, own_base hfr2 (hk1.trans hk2 (by simp)).size, (hk1.trans hk2 (by simp)).trans hk3 (by simp), hr2.kept hk3 (by simp) (by simp)⟩

theorem raw_ow {w : World} {b : Nat} {ao : Option Addr} {cap : Nat} {xs : List UInt8} {s : Rs} (h : RdS w b ao cap xs s) (n : Int) :
    Calls Try.prog 18 #[.pointer (some ⟨b, 0, none⟩), .int .i64 n] w fun e' w' => OwnEnd w w' e' (stRaw xs s n).1 ∧ Kept [b] w w' ∧ RdS w' b ao cap xs (stRaw xs s n).2 := by
  obtain ⟨a, ha, hr⟩ := h
  obtain ⟨at_, e, p⟩ := s
  unfold stRaw
  by_cases he : e = 0
  · subst he
    obtain rfl := ha rfl
    rw [if_pos rfl]
    by_cases h1 : n < 0
    · rw [if_pos h1]
      exact (raw_neg hr n h1).mono fun e w' ⟨h1, h2, h3⟩ => ⟨h1 ▸ OwnEnd.nil _ _, h2, _, fun _ => rfl, h3⟩
    · rw [if_neg h1]
      by_cases h2 : ((xs.length - a : Nat) : Int) < n
      · rw [if_pos h2]
        exact (raw_short hr n (by omega) h2).mono fun e w' ⟨h1, h2, h3⟩ => ⟨h1 ▸ OwnEnd.nil _ _, h2, _, fun _ => rfl, h3⟩
      · rw [if_neg h2]
        obtain ⟨m, rfl⟩ := Int.eq_ofNat_of_zero_le (show 0 ≤ n by omega)
        rw [Int.toNat_natCast]
        exact (raw_own hr m (by omega)).mono fun e w' ⟨ao', cap', h1, h2, h3, h4⟩ => ⟨⟨_, h1, by rw [take_len (a := a) (by omega)]; exact h2⟩, h3, _, fun _ => rfl, h4⟩
  · rw [if_neg he]
    exact (raw_bad hr.c0 (by simpa using he) n).mono fun e w' ⟨h1, h2⟩ => by
      subst h2
      exact ⟨h1 ▸ OwnEnd.nil _ _, Kept.refl _ _, a, fun h => absurd h he, hr⟩

theorem text_ow {w : World} {b : Nat} {ao : Option Addr} {cap : Nat} {xs : List UInt8} {s : Rs} (h : RdS w b ao cap xs s) (n : Int) :
    Calls Try.prog 19 #[.pointer (some ⟨b, 0, none⟩), .int .i64 n] w fun e' w' => OwnEnd w w' e' (stText xs s n).1 ∧ Kept [b] w w' ∧ RdS w' b ao cap xs (stText xs s n).2 := by
  obtain ⟨a, ha, hr⟩ := h
  obtain ⟨at_, e, p⟩ := s
  unfold stText
  by_cases he : e = 0
  · subst he
    obtain rfl := ha rfl
    rw [if_pos rfl]
    by_cases h1 : n < 0
    · rw [if_pos h1]
      exact (text_neg hr n h1).mono fun e w' ⟨h1, h2, h3⟩ => ⟨h1 ▸ OwnEnd.nil _ _, h2, _, fun _ => rfl, h3⟩
    · rw [if_neg h1]
      rcases hn : Pure.num (xs.drop a) with ⟨v, k, c⟩
      simp only [hn]
      by_cases hc : c = 0
      · subst hc
        rw [if_pos rfl]
        by_cases h2 : n < (v : Int)
        · rw [if_pos h2]
          exact (text_long hr n (by omega) hn h2).mono fun e w' ⟨h1, h2, h3⟩ => ⟨h1 ▸ OwnEnd.nil _ _, h2, _, fun h => by simp at h, h3⟩
        · rw [if_neg h2]
          by_cases h3 : xs.length - (a + k) < v
          · rw [if_pos h3]
            exact (text_short hr n (by omega) hn (by omega) h3).mono fun e w' ⟨h1, h2, h3⟩ => ⟨h1 ▸ OwnEnd.nil _ _, h2, _, fun h => by simp at h, h3⟩
          · rw [if_neg h3]
            exact (text_own hr n (by omega) hn (by omega) (by omega)).mono fun e w' ⟨ao', cap', h1, h2, h3, h4⟩ => ⟨⟨_, h1, by rw [take_len (by omega)]; exact h2⟩, h3, _, fun _ => rfl, h4⟩
      · rw [if_neg hc]
        exact (text_form hr n (by omega) hn hc).mono fun e w' ⟨h1, h2, h3⟩ => ⟨h1 ▸ OwnEnd.nil _ _, h2, _, fun _ => rfl, h3⟩
  · rw [if_neg he]
    exact (text_bad hr.c0 (by simpa using he) n).mono fun e w' ⟨h1, h2⟩ => by
      subst h2
      exact ⟨h1 ▸ OwnEnd.nil _ _, Kept.refl _ _, a, fun h => absurd h he, hr⟩

theorem wdata_ow {w : World} {p : Option Addr} {fp : List Nat} {o : Option (List UInt8)} (h : WrS w p fp o) (hl : ∀ ys, o = some ys → ys.length ≤ 100000000000) :
    Calls Try.prog 10 #[.pointer p] w fun e w' => ∃ v er, e = .returned (.tuple #[v, .int .i64 er]) ∧ w'.ownsRow w.heap.size 5 1 v (o.getD []).length (bys (o.getD [])) ∧ Kept [] w w' := by
  rcases h with ⟨b, bs, ys, rfl, rfl, rfl, hw⟩ | ⟨rfl, hsh, hp⟩
  · have hy := hl ys rfl
    exact (wdata_own hw (by omega)).mono fun e w' ⟨ao, cap, he, _, _, hk, ho⟩ => ⟨_, _, he, ho, hk⟩
  · exact (wdata_shut hsh).mono fun e w' ⟨he, hw⟩ => ⟨_, _, he, World.ownsRow_nil _ _ _ _, hw ▸ Kept.refl _ _⟩

end Go.Proofs.Ytjmameknbnflaab
