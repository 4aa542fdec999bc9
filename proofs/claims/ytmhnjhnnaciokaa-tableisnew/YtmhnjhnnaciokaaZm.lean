/-
  Contract: slices.Concat at results.
-/
import Derived.Test.YtmhnjhnnaciokaaZl
namespace Go.Proofs.Ytmhnjhnnaciokaa
open Go.RowKit Go.Sort
set_option linter.unusedVariables false
set_option linter.unusedSimpArgs false

/-- A slice of results that a call is handed. -/
structure Arg where
  ao : Option Addr
  cap : Nat
  l : List Res
def Arg.v (a : Arg) : Value := .slice a.ao a.l.length a.cap
def arg0 : Arg := ⟨none, 0, []⟩
structure ArgOk (w : World) (a : Arg) : Prop where
  rs : Ress w a.ao a.l
  wo : Wao a.ao
  nl : a.ao = none → a.cap = 0
def joined (S : List Arg) : List Res := S.flatMap (·.l)
theorem joined_snoc (S : List Arg) (k : Nat) (h : k < S.length) : joined (S.take (k + 1)) = joined (S.take k) ++ (S.getD k arg0).l := by
  have e : S.getD k arg0 = S[k] := by simp [List.getD, List.getElem?_eq_getElem h]
  rw [e, joined, List.take_succ_eq_append_getElem h, List.flatMap_append]
  simp only [List.flatMap_cons, List.flatMap_nil, List.append_nil]
  rfl
theorem joined_le (S : List Arg) (k : Nat) : (joined (S.take k)).length ≤ (joined S).length := by
  conv => rhs; rw [← List.take_append_drop k S]
  unfold joined
  rw [List.flatMap_append, List.length_append]
  omega

set_option maxHeartbeats 1600000 in
set_option maxRecDepth 100000 in
theorem concat_ok (g c m : Nat) (S : List Arg) (w : World) (hm : S.length = m) (hc : ∀ i, i < m → w.cell? ⟨g, 0 + i, none⟩ = some (S.getD i arg0).v) (hS : ∀ i, i < m → ArgOk w (S.getD i arg0)) (hb : (joined S).length * 72 ≤ 1000000) (hm2 : m ≤ 1000) :
    Calls Try.prog 16 #[.slice (some ⟨g, 0, none⟩) m c] w fun e w' => ∃ v, e = .returned v ∧ OwnR w' w.heap.size v (joined S) ∧ Kept [] w w' := by
  have HC := hide hc
  have HS := hide hS
  have HM := hide hm
  have HB := hide hb
  clear hc hS hm hb
  go_enter Try.func16, Try.ntmps16
  go_wp2
  go_loopw [3, 11] (fun x y wr => ∃ (k s : Nat), k ≤ m ∧ x = .int .i64 s ∧ y = .int .i64 k ∧ Hid (s = (joined (S.take k)).length) ∧ s ≤ 100000 ∧ Hid (w = wr)) (fun x y wr => m - (intOf y).toNat)
  case atStart => exact ⟨0, 0, Nat.zero_le _, rfl, rfl, by show _ = _; simp [joined], by omega, rfl⟩
  case round =>
    obtain ⟨k, s, hk, rfl, rfl, HJ, hs, HW⟩ := hrel
    have eW := HW.out
    subst eW
    by_cases hlt : k < m
    · have hcell := HC.out k hlt
      have hjn := joined_snoc S k (by rw [HM.out]; exact hlt)
      have hle := joined_le S (k + 1)
      rw [hjn, List.length_append] at hle
      unfold Arg.v at hcell
      obtain ⟨n1, hn1⟩ : ∃ n1, (S.getD k arg0).l.length = n1 := ⟨_, rfl⟩
      have HJ2 : Hid (s + n1 = (joined (S.take (k + 1))).length) := by show _ = _; rw [hjn, List.length_append, HJ.out, hn1]
      have hsn : s + n1 ≤ 100000 := by have := HB.out; have := HJ.out; omega
      rw [hn1] at hcell
      generalize (S.getD k arg0).ao = a1 at hcell
      generalize (S.getD k arg0).cap = c1 at hcell
      rw [Nat.zero_add] at hcell
      have hpos : ¬ ((s : Int) + (n1 : Int) < 0) := by omega
      clear hjn hle hn1
      go_wp2
      go_roundw
      case rel => exact ⟨k + 1, s + n1, by omega, by go_num, by go_num, HJ2.out, hsn, by first | trivial | exact HW.out⟩
      case measure => simp [intOf]; omega
    · obtain rfl : k = m := by omega
      have HJ3 : Hid (s = (joined S).length) := by show _ = _; rw [HJ.out, List.take_of_length_le (by rw [HM.out]; exact Nat.le_refl _)]
      have hg := grow_ok s w (by omega)
      go_wp2_with (go_at_call 33; refine hg.mono ?_; rintro e w1 ⟨v1, rfl, ho1, hk1⟩; have HO1 := hide ho1; have HK1 := hide hk1; clear ho1 hk1 hg)
      go_loopw [6, 27] (fun x y wr => ∃ (j : Nat) (v : Value), j ≤ k ∧ v = x ∧ y = .int .i64 j ∧ Hid (OwnR wr w.heap.size v (joined (S.take j))) ∧ Hid (Kept [] w wr)) (fun x y wr => k - (intOf y).toNat)
      case atStart => exact ⟨0, v1, Nat.zero_le _, rfl, rfl, by show OwnR _ _ _ _; simpa [joined] using HO1.out, HK1.out⟩
      case round =>
        clear HO1 HK1
        obtain ⟨j, v, hj, rfl, rfl, HO, HK⟩ := hrel
        by_cases hlt2 : j < k
        · have hcell := HK.out.cellOf (HC.out j hlt2) (by simp)
          have hok := HS.out j hlt2
          have hjn := joined_snoc S j (by rw [HM.out]; exact hlt2)
          have hle := joined_le S (j + 1)
          rw [hjn, List.length_append] at hle
          obtain ⟨v2, w2, hrun, ho2, hk2, hb2⟩ := run_appR wr w.heap.size v (joined (S.take j)) HO.out (S.getD j arg0).ao (S.getD j arg0).l.length (S.getD j arg0).cap (S.getD j arg0).l (hok.rs.kept HK.out (by simp)) rfl hok.wo hok.nl (by have := HB.out; omega) HK.out.size
          rw [← hjn] at ho2
          have HO2 := hide ho2
          have HK2 : Hid (Kept [] w w2) := by
            have := hk2 (match v.ownBlock with | some g => [g] | none => []) (fun g hg => by rw [hg]; simp)
            refine HK.out.trans this (fun i hi hlt => ?_)
            cases hv : v.ownBlock with
            | none => rw [hv] at hi; simp at hi
            | some g =>
              rw [hv] at hi
              simp only [List.mem_singleton] at hi
              have := (HO.out.lt hv).1
              omega
          unfold Arg.v at hcell
          rw [Nat.zero_add] at hcell
          generalize (S.getD j arg0).ao = a1 at hcell hrun
          generalize (S.getD j arg0).cap = c1 at hcell hrun
          generalize (S.getD j arg0).l.length = n1 at hcell hrun
          clear hok hjn hle ho2 hk2 hb2
          go_wp2_with (refine wpList_app_run rfl (.tmp 31) (.tmp 32) 22 22 rfl _ _ rfl rfl v2 w2 hrun ?_)
          go_roundw
          case rel => exact ⟨j + 1, v2, by omega, rfl, by go_num, HO2.out, HK2.out⟩
          case measure => simp [intOf]; omega
        · obtain rfl : j = k := by omega
          have HO2 : Hid (OwnR wr w.heap.size v (joined S)) := by
            have := HO.out
            rw [List.take_of_length_le (by rw [HM.out]; exact Nat.le_refl _)] at this
            exact this
          go_wp2
          go_ret
          exact ⟨v, rfl, HO2.out, HK.out⟩
end Go.Proofs.Ytmhnjhnnaciokaa
