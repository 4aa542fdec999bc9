/-
  Contracts: freightlaw9.rowIs, listIs.
-/
import Derived.Test.YtngaimahhgmciabGreatDoorV9av
import Derived.BigFrame
namespace Go.Proofs.YtngaimahhgmciabGreatDoor
open Go.RowKit
set_option linter.unusedVariables false
set_option linter.unusedSimpArgs false

theorem wpList_buildRunW {ops : Array Oper} {rest : List Oper} {o : Oper} {a : Act} {w : World} {Q : Exit → Act → World → Prop} (t : TypeId) (parts : Array (Nat × Operand)) (ho : o.op = .build t parts) (vals : Array (Nat × Value)) (hv : (parts.map fun (i, x) => (i, a.eval x)) = vals) (v : Value) (hrun : (Instr.build t vals).run Tryz.prog w = .ok v w) (hw : Region.wanted o (yielded ops a.tmps) = true)
    (h : wpList Tryz.prog ops Q rest (a.put o.dst v) w) : wpList Tryz.prog ops Q (o :: rest) a w :=
  BigFrame.wpList_want hw fun _ hK => by
    unfold Oper.wp execOp
    simp only [ho, hv, Sem.run_bind, hrun, Result.andThen_ok]
    exact hK _ _ h

set_option maxHeartbeats 1600000 in
set_option maxRecDepth 100000 in
/-- rowIs: the first n bytes are i, those behind them 100 + i. -/
theorem rowIs9_ok (ao : Option Addr) (N cap i n : Nat) (xs : List UInt8) (w : World) (hN : xs.length = N) (hm : N ≤ 140737488355328) (hi : i < 100) (hn : n ≤ N) (hS : Sl w ao xs) (h1 : ∀ k, k < n → (xs.getD k 0).toNat = i) (h2 : ∀ k, n ≤ k → k < N → (xs.getD k 0).toNat = 100 + i) :
    Calls Tryz.prog 20 #[.slice ao N cap, .int .i64 i, .int .i64 n] w fun r w' => r = .returned (.bool true) ∧ Kept [] w w' := by
  have HS := hide hS
  have H1 := hide h1
  have H2 := hide h2
  have HN := hide hN
  have w1 : IntKind.u8.wrap (i : Int) = i := by rw [IntKind.wrap_u8]; omega
  have w2 : IntKind.u8.wrap (100 + (i : Int)) = 100 + (i : Int) := by rw [IntKind.wrap_u8]; omega
  clear hS h1 h2 hN
  go_enter Tryz.func20, Tryz.ntmps20
  go_wp2
  go_loopw [7] (fun x wr => ∃ k : Nat, k ≤ N ∧ x = .int .i64 k ∧ Hid (Kept [] w wr)) (fun x wr => N - (intOf x).toNat)
  case atStart => exact ⟨0, Nat.zero_le _, rfl, Kept.refl _ _⟩
  case round =>
    obtain ⟨k, hk, rfl, HK⟩ := hrel
    by_cases hlt : k < N
    · obtain ⟨b, off, rfl, hb, hc⟩ := HS.out.open (by rintro rfl; have := HN.out; simp at this; omega)
      have ck : wr.cell? ⟨b, off + k, none⟩ = some (.int .u8 (xs.getD k 0).toNat) := HK.out.cellOf (hc k (by rw [HN.out]; exact hlt)) (by simp)
      clear hc hb
      by_cases hkn : k < n
      · rw [H1.out k hkn] at ck
        have q1 : ((i : Int) != (i : Int)) = false := by simp
        have q2 : ¬ ((n : Int) ≤ (k : Int)) := by omega
        go_wp2
        go_roundw
        case rel => exact ⟨k + 1, by omega, by go_num, HK.out⟩
        case measure => simp [intOf]; omega
      · have e2 := H2.out k (by omega) hlt
        rw [e2] at ck
        have e3 : ((100 + i : Nat) : Int) = 100 + (i : Int) := by omega
        rw [e3] at ck
        clear e2 e3
        have q1 : ((100 + (i : Int)) != (100 + (i : Int))) = false := by simp
        have q2 : ((n : Int) ≤ (k : Int)) := by omega
        have q3 : ¬ ((k : Int) < (n : Int)) := by omega
        go_wp2
        go_roundw
        case rel => exact ⟨k + 1, by omega, by go_num, HK.out⟩
        case measure => simp [intOf]; omega
    · go_wp2
      go_ret
      exact ⟨rfl, HK.out⟩

theorem wpList_load_midV {P : Program} {ops : Array Oper} {rest : List Oper} {o : Oper} {a : Act} {w : World} {Q : Exit → Act → World → Prop} (ty : TypeId) (x : Operand) (ho : o.op = .load ty x) (b off : Nat) (hx : a.eval x = .pointer (some ⟨b, off, none⟩)) (cs : List Value) (d : TypeDesc) (hc : w.rangeAt b off cs) (hu : P.underlying ty = some d) (hd : d.isRow = true) (hi : (P.info? ty).map (·.size) = some cs.length)
    (hw : Region.wanted o (yielded ops a.tmps) = true) (h : wpList P ops Q rest (a.put o.dst (.agg cs.toArray)) w) : wpList P ops Q (o :: rest) a w :=
  BigFrame.wpList_want hw fun _ hK => wp_load_mid ty x ho b off hx cs d hc hu hd hi (hK _ _ h)
theorem Tryz.buildI3 (x y : UInt8) (W : World) : (Instr.build 36 #[(0, .int .u8 x.toNat), (1, .int .u8 y.toNat), (2, .int .u8 9)]).run Tryz.prog W = .ok (.agg (bys (x :: y :: 9 :: List.replicate 29 0)).toArray) W := by kernel_rfl
theorem Tryz.buildI2 (y : UInt8) (W : World) : (Instr.build 36 #[(0, .int .u8 200), (1, .int .u8 y.toNat)]).run Tryz.prog W = .ok (.agg (bys (200 :: y :: List.replicate 30 0)).toArray) W := by kernel_rfl
theorem wrap_byte (k : Nat) : IntKind.u8.wrap (k : Int) = ((UInt8.ofNat k).toNat : Int) := by
  rw [IntKind.wrap_u8, UInt8.toNat_ofNat']
  omega
set_option maxHeartbeats 3200000 in
set_option maxRecDepth 100000 in
theorem listIs9_ok (ao : Option Addr) (N cap i n : Nat) (L : List Ix) (w : World) (hN : L.length = N) (hm : N ≤ 2199023255651) (hi : i < 100) (hn : n ≤ N) (hE : Ids w ao (L.map (·.b))) (h1 : ∀ k, k < n → L.getD k ix0 = wro i k) (h2 : ∀ k, n ≤ k → k < N → L.getD k ix0 = wpu i) :
    Calls Tryz.prog 19 #[.slice ao N cap, .int .i64 i, .int .i64 n] w fun r w' => r = .returned (.bool true) ∧ Kept [] w w' := by
  have HE := hide hE
  have H1 := hide h1
  have H2 := hide h2
  have HN := hide hN
  have wi : IntKind.u8.wrap (i : Int) = ((UInt8.ofNat i).toNat : Int) := wrap_byte i
  clear hE h1 h2 hN
  go_enter Tryz.func19, Tryz.ntmps19
  go_wp2
  go_loopw [7] (fun x wr => ∃ k : Nat, k ≤ N ∧ x = .int .i64 k ∧ Hid (Kept [] w wr)) (fun x wr => N - (intOf x).toNat)
  case atStart => exact ⟨0, Nat.zero_le _, rfl, Kept.refl _ _⟩
  case round =>
    obtain ⟨k, hk, rfl, HK⟩ := hrel
    by_cases hlt : k < N
    · obtain ⟨b, off, rfl, hrg⟩ := (HE.out.kept HK.out (fun _ _ _ => by simp)).1 k (by rw [List.length_map, HN.out]; exact hlt)
      have e0 : (L.map (·.b)).getD k [] = (L.getD k ix0).b := by
        have hkl : k < L.length := by rw [HN.out]; exact hlt
        simp [List.getD_eq_getElem?_getD, List.getElem?_map, List.getElem?_eq_getElem hkl]
      rw [e0] at hrg
      have n1 : (k : Int) < (N : Int) := by omega
      by_cases hkn : k < n
      · rw [H1.out k hkn] at hrg
        have wk : IntKind.u8.wrap (k : Int) = ((UInt8.ofNat k).toNat : Int) := wrap_byte k
        have hb : ∀ W, (Instr.build 36 #[(0, .int .u8 (UInt8.ofNat i).toNat), (1, .int .u8 (UInt8.ofNat k).toNat), (2, .int .u8 9)]).run Tryz.prog W = .ok (.agg (bys (wro i k).b).toArray) W := fun W => Tryz.buildI3 _ _ W
        obtain ⟨e, he⟩ : ∃ e, wro i k = e := ⟨_, rfl⟩
        rw [he] at hb hrg
        have heq : ∀ W, (Op.equalIn 10000 36 (.agg (bys e.b).toArray) (.agg (bys e.b).toArray)).run Tryz.prog W = .ok true W := fun W => by rw [Tryz.eqlID e.b e.b e.h e.h W, decide_eq_true rfl]
        have hiw := idl e.b e.h
        have q2 : ¬ ((n : Int) ≤ (k : Int)) := by omega
        have q3 : ((k : Int) < (n : Int)) := by omega
        clear he e0
        generalize (UInt8.ofNat i).toNat = ui at wi hb
        generalize (UInt8.ofNat k).toNat = uk at wk hb
        go_wp2_with (first
          | refine wpList_load_midV 36 (.tmp 20) rfl b (off + k * 32) rfl (bys e.b) _ hrg Tryz.underlying36 rfl hiw (by kernel_rfl) ?_
          | refine wpList_buildRunW 36 #[(0, .tmp 23), (1, .tmp 25), (2, .const (.int .u8 9))] rfl #[(0, .int .u8 ui), (1, .int .u8 uk), (2, .int .u8 9)] (by simp [Act.eval, Act.put]) _ (hb _) (by kernel_rfl) ?_)
        go_roundw
        case rel => exact ⟨k + 1, by omega, by go_num, HK.out⟩
        case measure => simp [intOf]; omega
      · rw [H2.out k (by omega) hlt] at hrg
        have hb : ∀ W, (Instr.build 36 #[(0, .int .u8 200), (1, .int .u8 (UInt8.ofNat i).toNat)]).run Tryz.prog W = .ok (.agg (bys (wpu i).b).toArray) W := fun W => Tryz.buildI2 _ W
        obtain ⟨e, he⟩ : ∃ e, wpu i = e := ⟨_, rfl⟩
        rw [he] at hb hrg
        have heq : ∀ W, (Op.equalIn 10000 36 (.agg (bys e.b).toArray) (.agg (bys e.b).toArray)).run Tryz.prog W = .ok true W := fun W => by rw [Tryz.eqlID e.b e.b e.h e.h W, decide_eq_true rfl]
        have hiw := idl e.b e.h
        have q2 : ((n : Int) ≤ (k : Int)) := by omega
        have q3 : ¬ ((k : Int) < (n : Int)) := by omega
        clear he e0
        generalize (UInt8.ofNat i).toNat = ui at wi hb
        go_wp2_with (first
          | refine wpList_load_midV 36 (.tmp 36) rfl b (off + k * 32) rfl (bys e.b) _ hrg Tryz.underlying36 rfl hiw (by kernel_rfl) ?_
          | refine wpList_buildRunW 36 #[(0, .const (.int .u8 200)), (1, .tmp 39)] rfl #[(0, .int .u8 200), (1, .int .u8 ui)] (by simp [Act.eval, Act.put]) _ (hb _) (by kernel_rfl) ?_)
        go_roundw
        case rel => exact ⟨k + 1, by omega, by go_num, HK.out⟩
        case measure => simp [intOf]; omega
    · go_wp2
      go_ret
      exact ⟨rfl, HK.out⟩

end Go.Proofs.YtngaimahhgmciabGreatDoor
