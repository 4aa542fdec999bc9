/-
  Contract: freightref8.Join. (Written by tools/t8j.py.)
-/
import Derived.Test.YtdeneflgldagpaaT8w
import Derived.Test.YtdeneflgldagpaaZt
namespace Go.Proofs.Ytdeneflgldagpaa
open Go.RowKit Go.Sort
set_option linter.unusedVariables false
set_option linter.unusedSimpArgs false

namespace Tb
/-- What Join answers of what it has gathered. -/
def jn (p : Int) (out : List Res) (C : List (List UInt8)) : St := if p = 3 ∧ C ≠ [] then ([], C, 150) else if 32 < out.length then ([], [], 97) else (out, C, 0)
def je (p : Int) (C : List (List UInt8)) : Int := if p = 3 ∧ C ≠ [] then 150 else 0
/-- Where a Join stands. -/
structure Jv (p : Int) (A B : List Res) (i j : Nat) (out : List Res) (C : List (List UInt8)) : Prop where
  run : ∃ R, uni (setl p) (sete p) A B ([], [], 0) = uni (setl p) (sete p) (A.drop i) (B.drop j) (R, C, je p C) ∧ (¬ (p = 3 ∧ C ≠ []) → out = R)
  lo : out.length ≤ i + j
  lc : C.length ≤ i
theorem Jv.start (p : Int) (A B : List Res) : Jv p A B 0 0 [] [] := ⟨⟨[], by simp [je], fun _ => rfl⟩, by simp, by simp⟩
theorem drop_cons {A : List Res} {i : Nat} (h : i < A.length) : A.drop i = A.getD i res0 :: A.drop (i + 1) := by
  rw [List.drop_eq_getElem_cons h]
  simp [List.getD, List.getElem?_eq_getElem h]
theorem Jv.left {p : Int} {A B : List Res} {i j : Nat} {out : List Res} {C : List (List UInt8)} (h : Jv p A B i j out C) (hi : i < A.length) (hc : B.length ≤ j ∨ (j < B.length ∧ cf (A.getD i res0) (B.getD j res0) < 0)) : Jv p A B (i + 1) j (out ++ [A.getD i res0]) C := by
  obtain ⟨⟨R, h1, h2⟩, h3, h4⟩ := h
  refine ⟨⟨R ++ [A.getD i res0], ?_, fun hn => by rw [h2 hn]⟩, by simp only [List.length_append, List.length_cons, List.length_nil]; omega, by omega⟩
  rw [h1]
  rcases hc with hc | ⟨hj, hc⟩
  · rw [List.drop_of_length_le hc, uni_right, uni_right, drop_cons hi]
    simp
  · rw [drop_cons hi, drop_cons hj, uni_lt _ _ _ _ _ _ _ hc]
theorem Jv.right {p : Int} {A B : List Res} {i j : Nat} {out : List Res} {C : List (List UInt8)} (h : Jv p A B i j out C) (hj : j < B.length) (hc : A.length ≤ i ∨ (i < A.length ∧ 0 < cf (A.getD i res0) (B.getD j res0))) : Jv p A B i (j + 1) (out ++ [B.getD j res0]) C := by
  obtain ⟨⟨R, h1, h2⟩, h3, h4⟩ := h
  refine ⟨⟨R ++ [B.getD j res0], ?_, fun hn => by rw [h2 hn]⟩, by simp only [List.length_append, List.length_cons, List.length_nil]; omega, by omega⟩
  rw [h1]
  rcases hc with hc | ⟨hi, hc⟩
  · rw [List.drop_of_length_le hc, uni_left, uni_left, drop_cons hj]
    simp
  · rw [drop_cons hi, drop_cons hj, uni_gt _ _ _ _ _ _ _ hc]
theorem Jv.same {p : Int} {A B : List Res} {i j : Nat} {out : List Res} {C : List (List UInt8)} (h : Jv p A B i j out C) (hi : i < A.length) (hj : j < B.length) (he : A.getD i res0 = B.getD j res0) : Jv p A B (i + 1) (j + 1) (out ++ [A.getD i res0]) C := by
  obtain ⟨⟨R, h1, h2⟩, h3, h4⟩ := h
  refine ⟨⟨R ++ [A.getD i res0], ?_, fun hn => by rw [h2 hn]⟩, by simp only [List.length_append, List.length_cons, List.length_nil]; omega, by omega⟩
  rw [h1, drop_cons hi, drop_cons hj, uni_eq _ _ _ _ _ _ _ (by rw [he]; exact cf_self _)]
  unfold both
  rw [if_pos he]
theorem Jv.unlike {p : Int} {A B : List Res} {i j : Nat} {out : List Res} {C : List (List UInt8)} (h : Jv p A B i j out C) (hp : p = 1 ∨ p = 2 ∨ p = 3) (hi : i < A.length) (hj : j < B.length) (hc : cf (A.getD i res0) (B.getD j res0) = 0) (he : A.getD i res0 ≠ B.getD j res0) :
    Jv p A B (i + 1) (j + 1) (out ++ [if p = 2 then B.getD j res0 else A.getD i res0]) (C ++ [(A.getD i res0).action]) := by
  obtain ⟨⟨R, h1, h2⟩, h3, h4⟩ := h
  have hrun : uni (setl p) (sete p) A B ([], [], 0) = uni (setl p) (sete p) (A.drop (i + 1)) (B.drop (j + 1)) (both (setl p (A.getD i res0) (B.getD j res0)) (sete p) (A.getD i res0) (B.getD j res0) (R, C, je p C)) := by
    rw [h1, drop_cons hi, drop_cons hj, uni_eq _ _ _ _ _ _ _ hc]
  refine ⟨?_, by simp only [List.length_append, List.length_cons, List.length_nil]; omega, by simp only [List.length_append, List.length_cons, List.length_nil]; omega⟩
  unfold both at hrun
  rw [if_neg he] at hrun
  rcases hp with rfl | rfl | rfl
  · refine ⟨R ++ [A.getD i res0], ?_, fun _ => by rw [h2 (by simp)]; simp⟩
    rw [hrun]
    simp [sete, setl, je]
  · refine ⟨R ++ [B.getD j res0], ?_, fun _ => by rw [h2 (by simp)]; simp⟩
    rw [hrun]
    simp [sete, setl, je]
  · refine ⟨R, ?_, fun hn => absurd ⟨rfl, by simp⟩ hn⟩
    rw [hrun]
    simp [sete, je]
theorem Jv.fin {p : Int} {A B : List Res} {i j : Nat} {out : List Res} {C : List (List UInt8)} (h : Jv p A B i j out C) (hp : p = 1 ∨ p = 2 ∨ p = 3) (hi : A.length ≤ i) (hj : B.length ≤ j) (hA : valid A = true) (hB : valid B = true) : join A B p = jn p out C := by
  obtain ⟨⟨R, h1, h2⟩, h3, h4⟩ := h
  rw [List.drop_of_length_le hi, List.drop_of_length_le hj, uni_left, List.append_nil] at h1
  unfold join
  rw [if_neg (by omega), if_neg (by rw [hA, hB]; simp), h1]
  unfold jn je
  by_cases hc : p = 3 ∧ C ≠ []
  · simp [hc]
  · rw [h2 hc]
    simp [hc]
end Tb

theorem own_apart {w : World} {base : Nat} {v vc : Value} {L : List Res} {C : List (List UInt8)} (h1 : OwnR w base v L) (h2 : OwnI w base vc C) (g : Nat) (hv : v.ownBlock = some g) : vc.ownBlock ≠ some g := by
  intro hc
  rcases h1.2 with ⟨rfl, _⟩ | ⟨g1, c1, cur1, rfl, _, hg1, _⟩
  · cases hv
  · rcases h2.1.2 with ⟨rfl, _⟩ | ⟨g2, c2, cur2, rfl, _, hg2, _⟩
    · cases hc
    · simp only [Value.ownBlock, Option.some.injEq] at hv hc
      subst hv
      subst hc
      rw [hg1] at hg2
      simp at hg2
theorem ids_not {w : World} {base : Nat} {vc : Value} {C : List (List UInt8)} {r : Nat} {cs : Array Value} {f : Nat × Nat} (h2 : OwnI w base vc C) (hr : w.heap[r]? = some (.cells cs 39 f)) : vc.ownBlock ≠ some r := by
  intro hc
  rcases h2.1.2 with ⟨rfl, _⟩ | ⟨g2, c2, cur2, rfl, _, hg2, _⟩
  · cases hc
  · simp only [Value.ownBlock, Option.some.injEq] at hc
    subst hc
    rw [hr] at hg2
    simp at hg2
theorem OwnI.kept {l : List Nat} {w w' : World} {base : Nat} {v : Value} {C : List (List UInt8)} (h : OwnI w base v C) (hk : Kept l w w') (hn : ∀ g, v.ownBlock = some g → g ∉ l) : OwnI w' base v C := ⟨own_kept h.1 hk hn, h.2⟩
/-- A Join's rows in memory. -/
structure Jw (w wr : World) (x y : Value) (out : List Res) (C : List (List UInt8)) : Prop where
  o : OwnR wr w.heap.size x out
  c : OwnI wr w.heap.size y C
  k : Kept [] w wr
theorem Jw.more {w wr wr' : World} {x y : Value} {out : List Res} {C : List (List UInt8)} (h : Jw w wr x y out C) (hk : Kept [] wr wr') : Jw w wr' x y out C :=
  ⟨h.o.kept hk (by simp), h.c.kept hk (by simp), h.k.trans hk (by simp)⟩
theorem Jw.put {w wr wr' : World} {x y : Value} {out : List Res} {C : List (List UInt8)} {r : Nat} (h : Jw w wr x y out C) (hk : Kept [r] wr wr') (hr : w.heap.size ≤ r) (h1 : x.ownBlock ≠ some r) (h2 : y.ownBlock ≠ some r) : Jw w wr' x y out C :=
  ⟨h.o.kept hk (fun g hg e => h1 (by simp at e; rw [← e]; exact hg)), h.c.kept hk (fun g hg e => h2 (by simp at e; rw [← e]; exact hg)), h.k.trans hk (fun i hi hlt => by simp at hi; omega)⟩
theorem Jw.app {w wr : World} {x y : Value} {out : List Res} {C : List (List UInt8)} (h : Jw w wr x y out C) (e : Res) (hl : out.length ≤ 1000) :
    ∃ v' w', (Builtin.append_ #[22, 22] 22 #[x, .slice (some ⟨wr.heap.size, 0, none⟩) 1 1]).run Try.prog (wr.alloc (.cells e.cells.toArray 39)) = .ok v' w' ∧ Jw w w' v' y (out ++ [e]) C := by
  have kN : Kept [] wr (wr.alloc (.cells e.cells.toArray 39)) := (Kept.refl [] wr).alloc _
  have h' := h.more kN
  obtain ⟨v', w', hrun, ho, hk, hbl⟩ := run_appR (wr.alloc (.cells e.cells.toArray 39)) w.heap.size x out h'.o (some ⟨wr.heap.size, 0, none⟩) 1 1 [e] (one_row (heap_new wr _)) rfl (.inr ⟨_, _, rfl⟩) (by simp) (by omega) h'.k.size
  refine ⟨v', w', hrun, ho, h'.c.kept (hk x.ownBlock.toList (by simp)) (fun g hg hm => own_apart h'.o h'.c g (by simpa using hm) hg), h'.k.trans (hk x.ownBlock.toList (by simp)) (fun i hi hlt => ?_)⟩
  have := (h'.o.lt (by simpa using hi)).1
  omega
theorem Jw.appI {w wr : World} {x y : Value} {out : List Res} {C : List (List UInt8)} (h : Jw w wr x y out C) (A : List UInt8) (hA : A.length = 32) (hl : C.length ≤ 1000) :
    ∃ v' w', (Builtin.append_ #[51, 51] 51 #[y, .slice (some ⟨wr.heap.size, 0, none⟩) 1 1]).run Try.prog (wr.alloc (.cells (bys A).toArray 37)) = .ok v' w' ∧ Jw w w' x v' out (C ++ [A]) ∧ (∀ (r : Nat) (cs : Array Value) (f : Nat × Nat), wr.heap[r]? = some (Obj.cells cs 39 f) → w'.heap[r]? = some (Obj.cells cs 39 f)) := by
  have kN : Kept [] wr (wr.alloc (.cells (bys A).toArray 37)) := (Kept.refl [] wr).alloc _
  have h' := h.more kN
  obtain ⟨v', w', hrun, ho, hk, hbl⟩ := run_appI h'.c h'.k.size A hA wr.heap.size (heap_new wr _) (by omega)
  have hk2 := hk y.ownBlock.toList (by simp)
  refine ⟨v', w', hrun, ⟨h'.o.kept hk2 (fun g hg hm => own_apart h'.o h'.c g hg (by simpa using hm)), ho, h'.k.trans hk2 (fun i hi hlt => ?_)⟩, fun r cs f hr => ?_⟩
  · have := (own_lt h'.c.1 (by simpa using hi)).1
    omega
  · have hr' : (wr.alloc (.cells (bys A).toArray 37)).heap[r]? = some (Obj.cells cs 39 f) := by rw [kN.block r (Array.getElem?_eq_some_iff.1 hr).1 (by simp)]; exact hr
    rw [hk2.block r (Array.getElem?_eq_some_iff.1 hr').1 (fun hm => ids_not h'.c hr' (by simpa using hm))]
    exact hr'
theorem wpList_buildId {ops : Array Oper} {rest : List Oper} {o : Oper} {a : Act} {w : World} {Q : Exit → Act → World → Prop} (hgd : o.guard = none) (x : Operand) (ho : o.op = .buildSlice 51 1 #[(0, x)]) (A : List UInt8) (hA : A.length = 32) (hx : a.eval x = .agg (bys A).toArray)
    (h : wpList Try.prog ops Q rest (a.put o.dst (.slice (some ⟨w.heap.size, 0, none⟩) 1 1)) (w.alloc (.cells (bys A).toArray 37))) : wpList Try.prog ops Q (o :: rest) a w :=
  wpList_plain hgd fun _ hK => wp_buildI x ho A hA hx (hK _ _ h)

set_option maxHeartbeats 3200000 in
set_option maxRecDepth 100000 in
theorem refjoin_arg (x1 x2 : Option Addr) (m1 d1 m2 d2 : Nat) (p : Int) (w : World) (hp : p < 1 ∨ 3 < p) :
    Calls Try.prog 26 #[.slice x1 m1 d1, .slice x2 m2 d2, .int .i64 p] w fun r w' => ToldJ w w' r ([], [], 1) := by
  by_cases h1 : p < 1
  · go_enter Try.func26, Try.ntmps26
    go_wp2
    go_ret3
    exact told_none (Kept.refl _ _)
  · have h2 : 3 < p := by omega
    go_enter Try.func26, Try.ntmps26
    go_wp2
    go_ret3
    exact told_none (Kept.refl _ _)

set_option maxHeartbeats 3200000 in
set_option maxRecDepth 100000 in
theorem refjoin_bad (x1 x2 : Option Addr) (m1 d1 m2 d2 : Nat) (A B : List Res) (p : Int) (w : World) (hp : ¬ (p < 1 ∨ 3 < p)) (h1 : A.length = m1) (h2 : B.length = m2) (hA : Ress w x1 A) (hB : Ress w x2 B) (hm1 : m1 ≤ 4611686018427387904) (hm2 : m2 ≤ 4611686018427387904) (hv : Tb.valid A = false ∨ Tb.valid B = false) :
    Calls Try.prog 26 #[.slice x1 m1 d1, .slice x2 m2 d2, .int .i64 p] w fun r w' => ToldJ w w' r ([], [], 80) := by
  have p1 : ¬ p < 1 := by omega
  have p2 : ¬ 3 < p := by omega
  have hva := refvalid_ok x1 m1 d1 A w h1 hA hm1
  have HB := hide hB
  have H2 := hide h2
  obtain ⟨V, hV⟩ : ∃ V, Tb.valid A = V := ⟨_, rfl⟩
  obtain ⟨V2, hV2⟩ : ∃ V, Tb.valid B = V := ⟨_, rfl⟩
  rw [hV] at hva hv
  rw [hV2] at hv
  have HV2 := hide hV2
  clear hA hB h1 h2 hV hV2 hp
  go_enter Try.func26, Try.ntmps26
  go_upto_region 4 with (go_at_call 14; refine hva.mono ?_; rintro r w1 ⟨rfl, hk1⟩; have HK1 := hide hk1; clear hk1 hva)
  have hvb := refvalid_ok x2 m2 d2 B w1 H2.out (HB.out.kept HK1.out (by simp)) hm2
  rw [HV2.out] at hvb
  go_upto_region 5 with (go_at_call 14; refine hvb.mono ?_; rintro r w2 ⟨rfl, hk2⟩; have HK2 := hide (HK1.out.trans hk2 (by simp)); clear hk2 hvb)
  cases V with
  | false =>
    go_wp2
    go_ret3
    exact told_none HK2.out
  | true =>
    obtain rfl : V2 = false := by simpa using hv
    go_wp2
    go_ret3
    exact told_none HK2.out


set_option maxHeartbeats 12800000 in
set_option maxRecDepth 100000 in
theorem refjoin_go (x1 x2 : Option Addr) (m1 d1 m2 d2 : Nat) (A B : List Res) (p : Int) (w : World) (hp : p = 1 ∨ p = 2 ∨ p = 3) (h1 : A.length = m1) (h2 : B.length = m2) (hA : Ress w x1 A) (hB : Ress w x2 B) (hVA : Tb.valid A = true) (hVB : Tb.valid B = true) :
    Calls Try.prog 26 #[.slice x1 m1 d1, .slice x2 m2 d2, .int .i64 p] w fun r w' => ToldJ w w' r (Tb.join A B p) := by
  have p1 : ¬ p < 1 := by omega
  have p2 : ¬ 3 < p := by omega
  have h32 := Tb.valid_len hVA
  have h33 := Tb.valid_len hVB
  rw [h1] at h32
  rw [h2] at h33
  have hva := refvalid_ok x1 m1 d1 A w h1 hA (by omega)
  rw [hVA] at hva
  have HP := hide hp
  have HA := hide hA
  have HB := hide hB
  have H1 := hide h1
  have H2 := hide h2
  have HVA := hide hVA
  have HVB := hide hVB
  clear hA hB h1 h2 hp hVA hVB
  go_enter Try.func26, Try.ntmps26
  go_upto_region 4 with (go_at_call 14; refine hva.mono ?_; rintro r w1 ⟨rfl, hk1⟩; have HK1 := hide hk1; clear hk1 hva)
  have hvb := refvalid_ok x2 m2 d2 B w1 H2.out (HB.out.kept HK1.out (by simp)) (by omega)
  rw [HVB.out] at hvb
  go_upto_region 5 with (go_at_call 14; refine hvb.mono ?_; rintro r w2 ⟨rfl, hk2⟩; have HK2 := hide (HK1.out.trans hk2 (by simp)); clear hk2 hvb)
  clear HK1
  clear w1
  go_wp2
  clear p1 p2
  go_loopw [11, 12, 13, 14] (fun x y z t wr => ∃ (i j : Nat) (out : List Res) (C : List (List UInt8)), i ≤ m1 ∧ j ≤ m2 ∧ z = .int .i64 i ∧ t = .int .i64 j ∧ Hid (Tb.Jv p A B i j out C) ∧ Hid (Jw w wr x y out C)) (fun x y z t wr => (m1 - (intOf z).toNat) + (m2 - (intOf t).toNat))
  case atStart => exact ⟨0, 0, [], [], Nat.zero_le _, Nat.zero_le _, rfl, rfl, Tb.Jv.start p A B, ⟨OwnR.nil _ _, ⟨World.ownsRow_nil _ _ _ _, by simp⟩, HK2.out⟩⟩
  case round =>
    clear HK2
    obtain ⟨i, j, out, C, hi, hj, rfl, rfl, HV0, HJ⟩ := hrel
    by_cases hjl : j < m2
    · have jltN : j < m2 := hjl
      have jltz : (j : Int) < (m2 : Int) := by omega
      have jeq : ((j : Int) == (m2 : Int)) = false := by simp; omega
      obtain ⟨b2, o2, rfl, hrj⟩ := (HB.out.kept HJ.out.k (by simp)) j (by rw [H2.out]; exact hjl)
      have HYw := hide hrj
      clear hrj
      obtain ⟨y, hy⟩ : ∃ y, B.getD j res0 = y := ⟨_, rfl⟩
      rw [hy] at HYw
      have iy : (Try.prog.info? 39).map (·.size) = some y.cells.length := by rw [y.len]; exact Try.infoResS
      by_cases hil : i < m1
      · have iltN : i < m1 := hil
        have ilt : (i : Int) < (m1 : Int) := by omega
        have ieq : ((i : Int) == (m1 : Int)) = false := by simp; omega
        obtain ⟨b1, o1, rfl, hri⟩ := (HA.out.kept HJ.out.k (by simp)) i (by rw [H1.out]; exact hil)
        have HXw := hide hri
        clear hri
        obtain ⟨x, hx⟩ : ∃ x, A.getD i res0 = x := ⟨_, rfl⟩
        rw [hx] at HXw
        have ix : (Try.prog.info? 39).map (·.size) = some x.cells.length := by rw [x.len]; exact Try.infoResS
        obtain ⟨E, hE⟩ : ∃ E, x.action = E := ⟨_, rfl⟩
        obtain ⟨F, hF⟩ : ∃ F, y.action = F := ⟨_, rfl⟩
        have hEl : E.length = 32 := by rw [← hE]; exact x.ha
        have hFl : F.length = 32 := by rw [← hF]; exact y.ha
        have iA : (Try.prog.info? 37).map (·.size) = some (bys E).length := by rw [bys_length, hEl]; kernel_rfl
        have iB : (Try.prog.info? 37).map (·.size) = some (bys F).length := by rw [bys_length, hFl]; kernel_rfl
        have HRA : Hid (wr.rangeAt b1 (o1 + i * 65) (bys E)) := fun q v hv => HXw.out q v (by unfold Res.cells; rw [hE, List.getElem?_append_left (List.getElem?_eq_some_iff.1 hv).1]; exact hv)
        have HRB : Hid (wr.rangeAt b2 (o2 + j * 65) (bys F)) := fun q v hv => HYw.out q v (by unfold Res.cells; rw [hF, List.getElem?_append_left (List.getElem?_eq_some_iff.1 hv).1]; exact hv)
        have oc := fun W => order_ok E F W hEl hFl
        obtain ⟨cv, hcv⟩ : ∃ cv, Lib.compareBytes E F = cv := ⟨_, rfl⟩
        simp only [hcv] at oc
        have HCF : Hid (Tb.cf (A.getD i res0) (B.getD j res0) = cv) := by show Lib.compareBytes _ _ = _; rw [hx, hy, hE, hF]; exact hcv
        have hiA : i < A.length := by rw [H1.out]; exact hil
        have hjB : j < B.length := by rw [H2.out]; exact hjl
        have HL := hide (fun h => HV0.out.left hiA (.inr ⟨hjB, h⟩))
        have HR := hide (fun h => HV0.out.right hjB (.inr ⟨hiA, h⟩))
        have HS := hide (fun h => HV0.out.same hiA hjB h)
        have HU := hide (fun h1 h2 => HV0.out.unlike HP.out hiA hjB h1 h2)
        rw [HCF.out, hx] at HL
        rw [HCF.out, hy] at HR
        rw [hx, hy] at HS
        rw [HCF.out, hx, hy] at HU
        have HE := hide hE
        have HEl := hide hEl
        have HYe := hide hy
        clear hx hy hE hF hcv HCF hiA hjB hEl hFl
        obtain ⟨lt, hlt⟩ : ∃ b, decide (cv < 0) = b := ⟨_, rfl⟩
        have HLT := hide hlt
        have hra := HRA.out
        have hrb := HRB.out
        go_upto_region 12 with (fail)
        refine wp_region_held_drew (S := fun w' => Kept [] wr w') (by kernel_rfl) ((Kept.refl [] wr).drew) (fun h0 => ?_)
        generalize World.drew wr = v0 at h0 ⊢
        refine wpAnyH_take (i := 0) (v := .int .i64 j) rfl (by kernel_rfl) (by kernel_rfl) (by kernel_rfl) (fun _ _ _ h => h) (Or.inl ⟨by rfl, fun w hSw => by go_simp⟩) h0 ?_
        try simp only [List.getElem_toArray, List.getElem_cons_zero, List.getElem_cons_succ, Act.put, List.setIfInBounds_toArray, List.set_cons_zero, List.set_cons_succ]
        refine wpAnyH_take (i := 1) (v := .slice (some ⟨b2, o2, none⟩) m2 d2) rfl (by kernel_rfl) (by kernel_rfl) (by kernel_rfl) (fun _ _ _ h => h) (Or.inl ⟨by rfl, fun w hSw => by go_simp⟩) h0 ?_
        try simp only [List.getElem_toArray, List.getElem_cons_zero, List.getElem_cons_succ, Act.put, List.setIfInBounds_toArray, List.set_cons_zero, List.set_cons_succ]
        refine wpAnyH_take (i := 2) (v := .int .i64 m2) rfl (by kernel_rfl) (by kernel_rfl) (by kernel_rfl) (fun _ _ _ h => h) (Or.inl ⟨by rfl, fun w hSw => by go_simp⟩) h0 ?_
        try simp only [List.getElem_toArray, List.getElem_cons_zero, List.getElem_cons_succ, Act.put, List.setIfInBounds_toArray, List.set_cons_zero, List.set_cons_succ]
        refine wpAnyH_take (i := 3) (v := .bool false) rfl (by kernel_rfl) (by kernel_rfl) (by kernel_rfl) (fun _ _ _ h => h) (Or.inl ⟨by rfl, fun w hSw => by have c0 := jeq; go_simp⟩) h0 ?_
        try simp only [List.getElem_toArray, List.getElem_cons_zero, List.getElem_cons_succ, Act.put, List.setIfInBounds_toArray, List.set_cons_zero, List.set_cons_succ]
        refine wpAnyH_take (i := 4) (v := .bool false) rfl (by kernel_rfl) (by kernel_rfl) (by kernel_rfl) (fun _ _ _ h => h) (Or.inl ⟨by rfl, fun w hSw => by go_simp⟩) h0 ?_
        try simp only [List.getElem_toArray, List.getElem_cons_zero, List.getElem_cons_succ, Act.put, List.setIfInBounds_toArray, List.set_cons_zero, List.set_cons_succ]
        refine wpAnyH_take (i := 5) (v := .int .i64 i) rfl (by kernel_rfl) (by kernel_rfl) (by kernel_rfl) (fun _ _ _ h => h) (Or.inl ⟨by rfl, fun w hSw => by go_simp⟩) h0 ?_
        try simp only [List.getElem_toArray, List.getElem_cons_zero, List.getElem_cons_succ, Act.put, List.setIfInBounds_toArray, List.set_cons_zero, List.set_cons_succ]
        refine wpAnyH_take (i := 6) (v := .slice (some ⟨b1, o1, none⟩) m1 d1) rfl (by kernel_rfl) (by kernel_rfl) (by kernel_rfl) (fun _ _ _ h => h) (Or.inl ⟨by rfl, fun w hSw => by go_simp⟩) h0 ?_
        try simp only [List.getElem_toArray, List.getElem_cons_zero, List.getElem_cons_succ, Act.put, List.setIfInBounds_toArray, List.set_cons_zero, List.set_cons_succ]
        refine wpAnyH_take (i := 7) (v := .int .i64 m1) rfl (by kernel_rfl) (by kernel_rfl) (by kernel_rfl) (fun _ _ _ h => h) (Or.inl ⟨by rfl, fun w hSw => by go_simp⟩) h0 ?_
        try simp only [List.getElem_toArray, List.getElem_cons_zero, List.getElem_cons_succ, Act.put, List.setIfInBounds_toArray, List.set_cons_zero, List.set_cons_succ]
        refine wpAnyH_take (i := 8) (v := .bool true) rfl (by kernel_rfl) (by kernel_rfl) (by kernel_rfl) (fun _ _ _ h => h) (Or.inl ⟨by rfl, fun w hSw => by have c0 := ilt; have c1 := iltN; go_simp⟩) h0 ?_
        try simp only [List.getElem_toArray, List.getElem_cons_zero, List.getElem_cons_succ, Act.put, List.setIfInBounds_toArray, List.set_cons_zero, List.set_cons_succ]
        refine wpAnyH_take (i := 9) (v := .bool true) rfl (by kernel_rfl) (by kernel_rfl) (by kernel_rfl) (fun _ _ _ h => h) (Or.inl ⟨by rfl, fun w hSw => by go_simp⟩) h0 ?_
        try simp only [List.getElem_toArray, List.getElem_cons_zero, List.getElem_cons_succ, Act.put, List.setIfInBounds_toArray, List.set_cons_zero, List.set_cons_succ]
        refine wpAnyH_take (i := 10) (v := .slice (some ⟨b1, o1, none⟩) m1 d1) rfl (by kernel_rfl) (by kernel_rfl) (by kernel_rfl) (fun _ _ _ h => h) (Or.inl ⟨by rfl, fun w hSw => by go_simp⟩) h0 ?_
        try simp only [List.getElem_toArray, List.getElem_cons_zero, List.getElem_cons_succ, Act.put, List.setIfInBounds_toArray, List.set_cons_zero, List.set_cons_succ]
        refine wpAnyH_take (i := 11) (v := .int .i64 i) rfl (by kernel_rfl) (by kernel_rfl) (by kernel_rfl) (fun _ _ _ h => h) (Or.inl ⟨by rfl, fun w hSw => by go_simp⟩) h0 ?_
        try simp only [List.getElem_toArray, List.getElem_cons_zero, List.getElem_cons_succ, Act.put, List.setIfInBounds_toArray, List.set_cons_zero, List.set_cons_succ]
        refine wpAnyH_take (i := 12) (v := .pointer (some ⟨b1, o1 + i * 65, none⟩)) rfl (by kernel_rfl) (by kernel_rfl) (by kernel_rfl) (fun _ _ _ h => h) (Or.inl ⟨by rfl, fun w hSw => by have c0 := iltN; go_simp⟩) h0 ?_
        try simp only [List.getElem_toArray, List.getElem_cons_zero, List.getElem_cons_succ, Act.put, List.setIfInBounds_toArray, List.set_cons_zero, List.set_cons_succ]
        refine wpAnyH_take (i := 13) (v := .pointer (some ⟨b1, o1 + i * 65, none⟩)) rfl (by kernel_rfl) (by kernel_rfl) (by kernel_rfl) (fun _ _ _ h => h) (Or.inl ⟨by rfl, fun w hSw => by go_simp⟩) h0 ?_
        try simp only [List.getElem_toArray, List.getElem_cons_zero, List.getElem_cons_succ, Act.put, List.setIfInBounds_toArray, List.set_cons_zero, List.set_cons_succ]
        refine wpAnyH_take (i := 14) rfl (by kernel_rfl) (by kernel_rfl) (by kernel_rfl) (fun _ _ _ h => h) (yieldsIf_load_mid (by rfl) _ _ rfl _ _ rfl _ _ (fun w h j v hv => Kept.cellOf h (hra j v hv) (by simp)) Try.underlying37 rfl iA) h0 ?_
        try simp only [List.getElem_toArray, List.getElem_cons_zero, List.getElem_cons_succ, Act.put, List.setIfInBounds_toArray, List.set_cons_zero, List.set_cons_succ]
        refine wpAnyH_take (i := 15) (v := .slice (some ⟨b2, o2, none⟩) m2 d2) rfl (by kernel_rfl) (by kernel_rfl) (by kernel_rfl) (fun _ _ _ h => h) (Or.inl ⟨by rfl, fun w hSw => by go_simp⟩) h0 ?_
        try simp only [List.getElem_toArray, List.getElem_cons_zero, List.getElem_cons_succ, Act.put, List.setIfInBounds_toArray, List.set_cons_zero, List.set_cons_succ]
        refine wpAnyH_take (i := 16) (v := .int .i64 j) rfl (by kernel_rfl) (by kernel_rfl) (by kernel_rfl) (fun _ _ _ h => h) (Or.inl ⟨by rfl, fun w hSw => by go_simp⟩) h0 ?_
        try simp only [List.getElem_toArray, List.getElem_cons_zero, List.getElem_cons_succ, Act.put, List.setIfInBounds_toArray, List.set_cons_zero, List.set_cons_succ]
        refine wpAnyH_take (i := 17) (v := .pointer (some ⟨b2, o2 + j * 65, none⟩)) rfl (by kernel_rfl) (by kernel_rfl) (by kernel_rfl) (fun _ _ _ h => h) (Or.inl ⟨by rfl, fun w hSw => by have c0 := jltN; go_simp⟩) h0 ?_
        try simp only [List.getElem_toArray, List.getElem_cons_zero, List.getElem_cons_succ, Act.put, List.setIfInBounds_toArray, List.set_cons_zero, List.set_cons_succ]
        refine wpAnyH_take (i := 18) (v := .pointer (some ⟨b2, o2 + j * 65, none⟩)) rfl (by kernel_rfl) (by kernel_rfl) (by kernel_rfl) (fun _ _ _ h => h) (Or.inl ⟨by rfl, fun w hSw => by go_simp⟩) h0 ?_
        try simp only [List.getElem_toArray, List.getElem_cons_zero, List.getElem_cons_succ, Act.put, List.setIfInBounds_toArray, List.set_cons_zero, List.set_cons_succ]
        refine wpAnyH_take (i := 19) rfl (by kernel_rfl) (by kernel_rfl) (by kernel_rfl) (fun _ _ _ h => h) (yieldsIf_load_mid (by rfl) _ _ rfl _ _ rfl _ _ (fun w h j v hv => Kept.cellOf h (hrb j v hv) (by simp)) Try.underlying37 rfl iB) h0 ?_
        try simp only [List.getElem_toArray, List.getElem_cons_zero, List.getElem_cons_succ, Act.put, List.setIfInBounds_toArray, List.set_cons_zero, List.set_cons_succ]
        refine wpAnyH_ready (rs := [20]) (by kernel_rfl) (by simp) (AllReadyH.cons (i := 20) rfl (fun K hK => ?_) AllReadyH.nil)
        rw [if_pos (by rfl)]
        go_simp
        refine (oc _).mono ?_
        rintro e v1 ⟨rfl, hq⟩
        refine hK.out _ _ (h0.trans hq (by simp)) (fun h1 => ?_)
        clear hK K hq h0
        try simp only [List.getElem_toArray, List.getElem_cons_zero, List.getElem_cons_succ, Act.put, List.setIfInBounds_toArray, List.set_cons_zero, List.set_cons_succ]
        refine wpAnyH_take (i := 21) (v := .bool lt) rfl (by kernel_rfl) (by kernel_rfl) (by kernel_rfl) (fun _ _ _ h => h) (Or.inl ⟨by rfl, fun w hSw => by have c0 := hlt; go_simp⟩) h1 ?_
        try simp only [List.getElem_toArray, List.getElem_cons_zero, List.getElem_cons_succ, Act.put, List.setIfInBounds_toArray, List.set_cons_zero, List.set_cons_succ]
        refine wpAnyH_take (i := 22) (v := .bool lt) rfl (by kernel_rfl) (by kernel_rfl) (by kernel_rfl) (fun _ _ _ h => h) (Or.inl ⟨by rfl, fun w hSw => by go_simp⟩) h1 ?_
        try simp only [List.getElem_toArray, List.getElem_cons_zero, List.getElem_cons_succ, Act.put, List.setIfInBounds_toArray, List.set_cons_zero, List.set_cons_succ]
        refine wpAnyH_take (i := 23) (v := .bool lt) rfl (by kernel_rfl) (by kernel_rfl) (by kernel_rfl) (fun _ _ _ h => h) (Or.inl ⟨by rfl, fun w hSw => by go_simp⟩) h1 ?_
        try simp only [List.getElem_toArray, List.getElem_cons_zero, List.getElem_cons_succ, Act.put, List.setIfInBounds_toArray, List.set_cons_zero, List.set_cons_succ]
        refine wpAnyH_done (by kernel_rfl) ?_ _
        have HV : Hid (Kept [] wr v1) := h1
        clear h1 hra hrb hlt
        obtain ⟨V1, hV1⟩ : ∃ V, V = v1 := ⟨_, rfl⟩
        subst hV1
        cases lt with
        | true =>
          have HV1 : Hid (Tb.Jv p A B (i + 1) j (out ++ [x]) C) := HL.out (of_decide_eq_true HLT.out)
          clear oc HL HR HS HU
          obtain ⟨v1, w2, hrun1, hJ1⟩ := (HJ.out.more HV.out).app x (by have := HV0.out.lo; omega)
          have H1 := hide hJ1
          clear hJ1
          have rX : V1.rangeAt b1 (o1 + i * 65) x.cells := fun q v hv => HV.out.cellOf (HXw.out q v hv) (by simp)
          go_wp2_with (first
            | refine wpList_load_mid rfl 39 (.tmp 69) rfl b1 (o1 + i * 65) rfl x.cells _ rX Try.underlying39 rfl ix ?_
            | refine wpList_buildOne rfl (.tmp 70) rfl x rfl ?_
            | refine wpList_app_run rfl (.tmp 66) (.tmp 71) 22 22 rfl u11 (.slice (some ⟨V1.heap.size, 0, none⟩) 1 1) rfl rfl v1 w2 hrun1 ?_)
          go_roundw
          case rel => exact ⟨i + 1, j, out ++ [x], C, by omega, hj, by go_num, rfl, HV1.out, H1.out⟩
          case measure => simp [intOf]; omega
        | false =>
          have hnl : ¬ cv < 0 := of_decide_eq_false HLT.out
          obtain ⟨gt, hgt⟩ : ∃ b, decide (0 < cv) = b := ⟨_, rfl⟩
          have HGT := hide hgt
          have hra : V1.rangeAt b1 (o1 + i * 65) (bys E) := fun q v hv => HV.out.cellOf (HRA.out q v hv) (by simp)
          have hrb : V1.rangeAt b2 (o2 + j * 65) (bys F) := fun q v hv => HV.out.cellOf (HRB.out q v hv) (by simp)
          go_upto_region 15 with (fail)
          refine wp_region_held_drew (S := fun w' => Kept [] V1 w') (by kernel_rfl) ((Kept.refl [] V1).drew) (fun h0 => ?_)
          generalize World.drew V1 = v0 at h0 ⊢
          refine wpAnyH_take (i := 0) (v := .int .i64 i) rfl (by kernel_rfl) (by kernel_rfl) (by kernel_rfl) (fun _ _ _ h => h) (Or.inl ⟨by rfl, fun w hSw => by go_simp⟩) h0 ?_
          try simp only [List.getElem_toArray, List.getElem_cons_zero, List.getElem_cons_succ, Act.put, List.setIfInBounds_toArray, List.set_cons_zero, List.set_cons_succ]
          refine wpAnyH_take (i := 1) (v := .slice (some ⟨b1, o1, none⟩) m1 d1) rfl (by kernel_rfl) (by kernel_rfl) (by kernel_rfl) (fun _ _ _ h => h) (Or.inl ⟨by rfl, fun w hSw => by go_simp⟩) h0 ?_
          try simp only [List.getElem_toArray, List.getElem_cons_zero, List.getElem_cons_succ, Act.put, List.setIfInBounds_toArray, List.set_cons_zero, List.set_cons_succ]
          refine wpAnyH_take (i := 2) (v := .int .i64 m1) rfl (by kernel_rfl) (by kernel_rfl) (by kernel_rfl) (fun _ _ _ h => h) (Or.inl ⟨by rfl, fun w hSw => by go_simp⟩) h0 ?_
          try simp only [List.getElem_toArray, List.getElem_cons_zero, List.getElem_cons_succ, Act.put, List.setIfInBounds_toArray, List.set_cons_zero, List.set_cons_succ]
          refine wpAnyH_take (i := 3) (v := .bool false) rfl (by kernel_rfl) (by kernel_rfl) (by kernel_rfl) (fun _ _ _ h => h) (Or.inl ⟨by rfl, fun w hSw => by have c0 := ieq; go_simp⟩) h0 ?_
          try simp only [List.getElem_toArray, List.getElem_cons_zero, List.getElem_cons_succ, Act.put, List.setIfInBounds_toArray, List.set_cons_zero, List.set_cons_succ]
          refine wpAnyH_take (i := 4) (v := .bool false) rfl (by kernel_rfl) (by kernel_rfl) (by kernel_rfl) (fun _ _ _ h => h) (Or.inl ⟨by rfl, fun w hSw => by go_simp⟩) h0 ?_
          try simp only [List.getElem_toArray, List.getElem_cons_zero, List.getElem_cons_succ, Act.put, List.setIfInBounds_toArray, List.set_cons_zero, List.set_cons_succ]
          refine wpAnyH_take (i := 5) (v := .slice (some ⟨b1, o1, none⟩) m1 d1) rfl (by kernel_rfl) (by kernel_rfl) (by kernel_rfl) (fun _ _ _ h => h) (Or.inl ⟨by rfl, fun w hSw => by go_simp⟩) h0 ?_
          try simp only [List.getElem_toArray, List.getElem_cons_zero, List.getElem_cons_succ, Act.put, List.setIfInBounds_toArray, List.set_cons_zero, List.set_cons_succ]
          refine wpAnyH_take (i := 6) (v := .int .i64 i) rfl (by kernel_rfl) (by kernel_rfl) (by kernel_rfl) (fun _ _ _ h => h) (Or.inl ⟨by rfl, fun w hSw => by go_simp⟩) h0 ?_
          try simp only [List.getElem_toArray, List.getElem_cons_zero, List.getElem_cons_succ, Act.put, List.setIfInBounds_toArray, List.set_cons_zero, List.set_cons_succ]
          refine wpAnyH_take (i := 7) (v := .pointer (some ⟨b1, o1 + i * 65, none⟩)) rfl (by kernel_rfl) (by kernel_rfl) (by kernel_rfl) (fun _ _ _ h => h) (Or.inl ⟨by rfl, fun w hSw => by have c0 := iltN; go_simp⟩) h0 ?_
          try simp only [List.getElem_toArray, List.getElem_cons_zero, List.getElem_cons_succ, Act.put, List.setIfInBounds_toArray, List.set_cons_zero, List.set_cons_succ]
          refine wpAnyH_take (i := 8) (v := .pointer (some ⟨b1, o1 + i * 65, none⟩)) rfl (by kernel_rfl) (by kernel_rfl) (by kernel_rfl) (fun _ _ _ h => h) (Or.inl ⟨by rfl, fun w hSw => by go_simp⟩) h0 ?_
          try simp only [List.getElem_toArray, List.getElem_cons_zero, List.getElem_cons_succ, Act.put, List.setIfInBounds_toArray, List.set_cons_zero, List.set_cons_succ]
          refine wpAnyH_take (i := 9) rfl (by kernel_rfl) (by kernel_rfl) (by kernel_rfl) (fun _ _ _ h => h) (yieldsIf_load_mid (by rfl) _ _ rfl _ _ rfl _ _ (fun w h j v hv => Kept.cellOf h (hra j v hv) (by simp)) Try.underlying37 rfl iA) h0 ?_
          try simp only [List.getElem_toArray, List.getElem_cons_zero, List.getElem_cons_succ, Act.put, List.setIfInBounds_toArray, List.set_cons_zero, List.set_cons_succ]
          refine wpAnyH_take (i := 10) (v := .slice (some ⟨b2, o2, none⟩) m2 d2) rfl (by kernel_rfl) (by kernel_rfl) (by kernel_rfl) (fun _ _ _ h => h) (Or.inl ⟨by rfl, fun w hSw => by go_simp⟩) h0 ?_
          try simp only [List.getElem_toArray, List.getElem_cons_zero, List.getElem_cons_succ, Act.put, List.setIfInBounds_toArray, List.set_cons_zero, List.set_cons_succ]
          refine wpAnyH_take (i := 11) (v := .int .i64 j) rfl (by kernel_rfl) (by kernel_rfl) (by kernel_rfl) (fun _ _ _ h => h) (Or.inl ⟨by rfl, fun w hSw => by go_simp⟩) h0 ?_
          try simp only [List.getElem_toArray, List.getElem_cons_zero, List.getElem_cons_succ, Act.put, List.setIfInBounds_toArray, List.set_cons_zero, List.set_cons_succ]
          refine wpAnyH_take (i := 12) (v := .pointer (some ⟨b2, o2 + j * 65, none⟩)) rfl (by kernel_rfl) (by kernel_rfl) (by kernel_rfl) (fun _ _ _ h => h) (Or.inl ⟨by rfl, fun w hSw => by have c0 := jltN; go_simp⟩) h0 ?_
          try simp only [List.getElem_toArray, List.getElem_cons_zero, List.getElem_cons_succ, Act.put, List.setIfInBounds_toArray, List.set_cons_zero, List.set_cons_succ]
          refine wpAnyH_take (i := 13) (v := .pointer (some ⟨b2, o2 + j * 65, none⟩)) rfl (by kernel_rfl) (by kernel_rfl) (by kernel_rfl) (fun _ _ _ h => h) (Or.inl ⟨by rfl, fun w hSw => by go_simp⟩) h0 ?_
          try simp only [List.getElem_toArray, List.getElem_cons_zero, List.getElem_cons_succ, Act.put, List.setIfInBounds_toArray, List.set_cons_zero, List.set_cons_succ]
          refine wpAnyH_take (i := 14) rfl (by kernel_rfl) (by kernel_rfl) (by kernel_rfl) (fun _ _ _ h => h) (yieldsIf_load_mid (by rfl) _ _ rfl _ _ rfl _ _ (fun w h j v hv => Kept.cellOf h (hrb j v hv) (by simp)) Try.underlying37 rfl iB) h0 ?_
          try simp only [List.getElem_toArray, List.getElem_cons_zero, List.getElem_cons_succ, Act.put, List.setIfInBounds_toArray, List.set_cons_zero, List.set_cons_succ]
          refine wpAnyH_ready (rs := [15]) (by kernel_rfl) (by simp) (AllReadyH.cons (i := 15) rfl (fun K hK => ?_) AllReadyH.nil)
          rw [if_pos (by rfl)]
          go_simp
          refine (oc _).mono ?_
          rintro e v1 ⟨rfl, hq⟩
          refine hK.out _ _ (h0.trans hq (by simp)) (fun h1 => ?_)
          clear hK K hq h0
          try simp only [List.getElem_toArray, List.getElem_cons_zero, List.getElem_cons_succ, Act.put, List.setIfInBounds_toArray, List.set_cons_zero, List.set_cons_succ]
          refine wpAnyH_take (i := 16) (v := .bool gt) rfl (by kernel_rfl) (by kernel_rfl) (by kernel_rfl) (fun _ _ _ h => h) (Or.inl ⟨by rfl, fun w hSw => by have c0 := hgt; go_simp⟩) h1 ?_
          try simp only [List.getElem_toArray, List.getElem_cons_zero, List.getElem_cons_succ, Act.put, List.setIfInBounds_toArray, List.set_cons_zero, List.set_cons_succ]
          refine wpAnyH_take (i := 17) (v := .bool gt) rfl (by kernel_rfl) (by kernel_rfl) (by kernel_rfl) (fun _ _ _ h => h) (Or.inl ⟨by rfl, fun w hSw => by go_simp⟩) h1 ?_
          try simp only [List.getElem_toArray, List.getElem_cons_zero, List.getElem_cons_succ, Act.put, List.setIfInBounds_toArray, List.set_cons_zero, List.set_cons_succ]
          refine wpAnyH_done (by kernel_rfl) ?_ _
          replace HV : Hid (Kept [] wr v1) := HV.out.trans h1 (by simp)
          clear h1 hra hrb hgt oc
          obtain ⟨V2, hV2⟩ : ∃ V, V = v1 := ⟨_, rfl⟩
          subst hV2
          cases gt with
          | true =>
            have HV1 : Hid (Tb.Jv p A B i (j + 1) (out ++ [y]) C) := HR.out (of_decide_eq_true HGT.out)
            clear HL HR HS HU
            obtain ⟨v1, w2, hrun1, hJ1⟩ := (HJ.out.more HV.out).app y (by have := HV0.out.lo; omega)
            have H1 := hide hJ1
            clear hJ1
            have rY : V2.rangeAt b2 (o2 + j * 65) y.cells := fun q v hv => HV.out.cellOf (HYw.out q v hv) (by simp)
            go_wp2_with (first
              | refine wpList_load_mid rfl 39 (.tmp 96) rfl b2 (o2 + j * 65) rfl y.cells _ rY Try.underlying39 rfl iy ?_
              | refine wpList_buildOne rfl (.tmp 97) rfl y rfl ?_
              | refine wpList_app_run rfl (.tmp 93) (.tmp 98) 22 22 rfl u11 (.slice (some ⟨V2.heap.size, 0, none⟩) 1 1) rfl rfl v1 w2 hrun1 ?_)
            go_roundw
            case rel => exact ⟨i, j + 1, out ++ [y], C, hi, by omega, rfl, by go_num, HV1.out, H1.out⟩
            case measure => simp [intOf]; omega
          | false =>
            have hng : ¬ 0 < cv := of_decide_eq_false HGT.out
            have HC0 : Hid (cv = 0) := by show cv = 0; omega
            clear HL HR HLT HGT hnl hng HRA HRB iA iB
            have hz := Try.zeroRes
            have ixa : (Try.prog.info? 39).map (·.size) = some x.cells.toArray.size := by rw [res_size]; exact Try.infoResS
            have rX : V2.rangeAt b1 (o1 + i * 65) x.cells := fun q v hv => HV.out.cellOf (HXw.out q v hv) (by simp)
            go_upto_region 19 with (first
              | refine wpList_load_mid rfl 39 (.tmp 104) rfl b1 (o1 + i * 65) rfl x.cells _ rX Try.underlying39 rfl ix ?_
              | refine wpList_store_rowTo rfl 39 (.tmp 15) (.tmp 105) rfl rfl V2.heap.size x.cells.toArray rfl rfl 39 zeroR (new_zero V2) ixa (zero_size x) (res_all x) ?_)
            have eW : (V2.alloc (.cells zeroR 39)).setRow V2.heap.size x.cells.toArray = withRes V2 x := rfl
            rw [eW]
            have kW : Kept [] V2 (withRes V2 x) := Kept.of_below (withRes_below V2 x)
            have HW : Hid (Kept [] wr (withRes V2 x)) := HV.out.trans kW (by simp)
            have HRr : Hid ((withRes V2 x).heap[V2.heap.size]? = some (.cells x.cells.toArray 39 (0, 0))) := withRes_row V2 x
            have HNr : Hid (u11.ownBlock ≠ some V2.heap.size ∧ w.heap.size ≤ V2.heap.size) := ⟨fun e => by have := ((HJ.out.more HV.out).o.lt e).2; omega, (HJ.out.more HV.out).k.size⟩
            clear eW kW HV rX hz
            generalize withRes V2 x = V3 at HW HRr ⊢
            obtain ⟨r, hr⟩ : ∃ r, V2.heap.size = r := ⟨_, rfl⟩
            rw [hr] at HRr HNr ⊢
            clear hr
            clear V1 V2
            have rr := res_range HRr.out
            have ry : V3.rangeAt b2 (o2 + j * 65) y.cells := fun q v hv => HW.out.cellOf (HYw.out q v hv) (by simp)
            have heq := Try.eqlRes x y
            obtain ⟨D, hD⟩ : ∃ D, decide (x = y) = D := ⟨_, rfl⟩
            simp only [hD] at heq
            have HD := hide hD
            clear hD
            refine wp_region_held_drew (S := fun w' => Kept [] V3 w') (by kernel_rfl) ((Kept.refl [] V3).drew) (fun h0 => ?_)
            generalize World.drew V3 = v0 at h0 ⊢
            refine wpAnyH_take (i := 0) rfl (by kernel_rfl) (by kernel_rfl) (by kernel_rfl) (fun _ _ _ h => h) (yieldsIf_load_mid (by rfl) _ _ rfl _ _ rfl _ _ (fun w h j v hv => Kept.cellOf h (rr j v hv) (by simp)) Try.underlying39 rfl ix) h0 ?_
            try simp only [List.getElem_toArray, List.getElem_cons_zero, List.getElem_cons_succ, Act.put, List.setIfInBounds_toArray, List.set_cons_zero, List.set_cons_succ]
            refine wpAnyH_take (i := 1) (v := .slice (some ⟨b2, o2, none⟩) m2 d2) rfl (by kernel_rfl) (by kernel_rfl) (by kernel_rfl) (fun _ _ _ h => h) (Or.inl ⟨by rfl, fun w hSw => by go_simp⟩) h0 ?_
            try simp only [List.getElem_toArray, List.getElem_cons_zero, List.getElem_cons_succ, Act.put, List.setIfInBounds_toArray, List.set_cons_zero, List.set_cons_succ]
            refine wpAnyH_take (i := 2) (v := .int .i64 j) rfl (by kernel_rfl) (by kernel_rfl) (by kernel_rfl) (fun _ _ _ h => h) (Or.inl ⟨by rfl, fun w hSw => by go_simp⟩) h0 ?_
            try simp only [List.getElem_toArray, List.getElem_cons_zero, List.getElem_cons_succ, Act.put, List.setIfInBounds_toArray, List.set_cons_zero, List.set_cons_succ]
            refine wpAnyH_take (i := 3) (v := .pointer (some ⟨b2, o2 + j * 65, none⟩)) rfl (by kernel_rfl) (by kernel_rfl) (by kernel_rfl) (fun _ _ _ h => h) (Or.inl ⟨by rfl, fun w hSw => by have c0 := jltN; go_simp⟩) h0 ?_
            try simp only [List.getElem_toArray, List.getElem_cons_zero, List.getElem_cons_succ, Act.put, List.setIfInBounds_toArray, List.set_cons_zero, List.set_cons_succ]
            refine wpAnyH_take (i := 4) rfl (by kernel_rfl) (by kernel_rfl) (by kernel_rfl) (fun _ _ _ h => h) (yieldsIf_load_mid (by rfl) _ _ rfl _ _ rfl _ _ (fun w h j v hv => Kept.cellOf h (ry j v hv) (by simp)) Try.underlying39 rfl iy) h0 ?_
            try simp only [List.getElem_toArray, List.getElem_cons_zero, List.getElem_cons_succ, Act.put, List.setIfInBounds_toArray, List.set_cons_zero, List.set_cons_succ]
            refine wpAnyH_take (i := 5) (v := .bool (!D)) rfl (by kernel_rfl) (by kernel_rfl) (by kernel_rfl) (fun _ _ _ h => h) (Or.inl ⟨by rfl, fun w hSw => by have c := heq w; go_simp⟩) h0 ?_
            try simp only [List.getElem_toArray, List.getElem_cons_zero, List.getElem_cons_succ, Act.put, List.setIfInBounds_toArray, List.set_cons_zero, List.set_cons_succ]
            refine wpAnyH_done (by kernel_rfl) ?_ _
            have HV4 : Hid (Kept [] wr v0) := HW.out.trans h0 (by simp)
            have HR4 : Hid (v0.heap[r]? = some (.cells x.cells.toArray 39 (0, 0))) := by show _ = _; rw [h0.block r (Array.getElem?_eq_some_iff.1 HRr.out).1 (by simp)]; exact HRr.out
            clear h0 rr ry heq HW HRr
            obtain ⟨V4, hV4⟩ : ∃ V, V = v0 := ⟨_, rfl⟩
            subst hV4
            clear V3
            cases D with
            | true =>
              have HV1 : Hid (Tb.Jv p A B (i + 1) (j + 1) (out ++ [x]) C) := HS.out (of_decide_eq_true HD.out)
              clear HS HU
              obtain ⟨v1, w2, hrun1, hJ1⟩ := (HJ.out.more HV4.out).app x (by have := HV0.out.lo; omega)
              have H5 := hide hJ1
              clear hJ1
              have rX := res_range HR4.out
              go_wp2_with (first
                | refine wpList_load_mid rfl 39 (.tmp 15) rfl r 0 rfl x.cells _ rX Try.underlying39 rfl ix ?_
                | refine wpList_buildOne rfl (.tmp 124) rfl x rfl ?_
                | refine wpList_app_run rfl (.tmp 123) (.tmp 125) 22 22 rfl u11 (.slice (some ⟨V4.heap.size, 0, none⟩) 1 1) rfl rfl v1 w2 hrun1 ?_)
              go_roundw
              case rel => exact ⟨i + 1, j + 1, out ++ [x], C, by omega, by omega, by go_num, by go_num, HV1.out, H5.out⟩
              case measure => simp [intOf]; omega
            | false =>
              have HV1 := hide (HU.out HC0.out (of_decide_eq_false HD.out))
              clear HS HU
              rw [HE.out] at HV1
              obtain ⟨v1, w2, hrun1, hJ1, hkeep⟩ := (HJ.out.more HV4.out).appI E HEl.out (by have := HV0.out.lc; omega)
              have H5 : Hid (Jw w w2 u11 v1 out (C ++ [E])) := hJ1
              have HR5 : Hid (w2.heap[r]? = some (.cells x.cells.toArray 39 (0, 0))) := hkeep r _ _ HR4.out
              have H25 : Hid (Kept [] w w2) := hJ1.k
              clear hJ1 hkeep
              have hEE : (bys E).length = 32 := by rw [bys_length]; exact HEl.out
              have iA : (Try.prog.info? 37).map (·.size) = some (bys E).length := by rw [hEE]; kernel_rfl
              have rE : V4.rangeAt r 0 (bys E) := fun q v hv => res_range HR4.out q v (by unfold Res.cells; rw [HE.out, List.getElem?_append_left (List.getElem?_eq_some_iff.1 hv).1]; exact hv)
              go_upto_region 21 with (first
                | refine wpList_load_mid rfl 37 (.tmp 113) rfl r 0 rfl (bys E) _ rE Try.underlying37 rfl iA ?_
                | refine wpList_buildId rfl (.tmp 114) rfl E HEl.out rfl ?_
                | refine wpList_app_run rfl (.tmp 112) (.tmp 115) 51 51 rfl u12 (.slice (some ⟨V4.heap.size, 0, none⟩) 1 1) rfl rfl v1 w2 hrun1 ?_)
              clear hrun1 rE HR4 iA hEE
              by_cases hp2 : p = 2
              · have hp2z : (p == 2) = true := by simp [hp2]
                rw [if_pos hp2] at HV1
                have HP2 := hide hp2
                clear hp2
                have ry : w2.rangeAt b2 (o2 + j * 65) y.cells := fun q v hv => by
                  obtain ⟨b2', o2', e2, hq⟩ := (HB.out.kept H25.out (by simp)) j (by rw [H2.out]; exact hjl)
                  cases e2
                  rw [HYe.out] at hq
                  exact hq q v hv
                have hrow := HR5.out
                have iya : (Try.prog.info? 39).map (·.size) = some y.cells.toArray.size := by rw [res_size]; exact Try.infoResS
                have szxy : x.cells.toArray.size = y.cells.toArray.size := by rw [res_size, res_size]
                go_upto_region 23 with (first
                  | refine wpList_load_mid rfl 39 (.tmp 121) rfl b2 (o2 + j * 65) rfl y.cells _ ry Try.underlying39 rfl iy ?_
                  | refine wpList_store_rowTo rfl 39 (.tmp 15) (.tmp 122) rfl rfl r y.cells.toArray rfl rfl 39 x.cells.toArray hrow iya szxy (res_all y) ?_)
                have H6 : Hid (Jw w (w2.setRow r y.cells.toArray) u11 v1 out (C ++ [E])) := H5.out.put (kept_row w2 r y.cells.toArray) HNr.out.2 HNr.out.1 (ids_not H5.out.c hrow)
                have HR6 := hide (res_range (setRow_heap _ _ _ y.cells.toArray _ _ hrow))
                clear hrow ry H5 HR5 H25
                generalize w2.setRow r y.cells.toArray = w3 at H6 HR6 ⊢
                obtain ⟨v2, w4, hrun2, hJ2⟩ := H6.out.app y (by have := HV0.out.lo; omega)
                have H7 := hide hJ2
                clear hJ2
                have rX := HR6.out
                go_wp2_with (first
                  | refine wpList_load_mid rfl 39 (.tmp 15) rfl r 0 rfl y.cells _ rX Try.underlying39 rfl iy ?_
                  | refine wpList_buildOne rfl (.tmp 124) rfl y rfl ?_
                  | refine wpList_app_run rfl (.tmp 123) (.tmp 125) 22 22 rfl u11 (.slice (some ⟨w3.heap.size, 0, none⟩) 1 1) rfl rfl v2 w4 hrun2 ?_)
                go_roundw
                case rel => exact ⟨i + 1, j + 1, out ++ [y], C ++ [E], by omega, by omega, by go_num, by go_num, HV1.out, H7.out⟩
                case measure => simp [intOf]; omega
              · have hp2z : (p == 2) = false := by simp [hp2]
                rw [if_neg hp2] at HV1
                clear hp2
                obtain ⟨v2, w4, hrun2, hJ2⟩ := H5.out.app x (by have := HV0.out.lo; omega)
                have H7 := hide hJ2
                clear hJ2
                have rX := res_range HR5.out
                go_wp2_with (first
                  | refine wpList_load_mid rfl 39 (.tmp 15) rfl r 0 rfl x.cells _ rX Try.underlying39 rfl ix ?_
                  | refine wpList_buildOne rfl (.tmp 124) rfl x rfl ?_
                  | refine wpList_app_run rfl (.tmp 123) (.tmp 125) 22 22 rfl u11 (.slice (some ⟨w2.heap.size, 0, none⟩) 1 1) rfl rfl v2 w4 hrun2 ?_)
                go_roundw
                case rel => exact ⟨i + 1, j + 1, out ++ [x], C ++ [E], by omega, by omega, by go_num, by go_num, HV1.out, H7.out⟩
                case measure => simp [intOf]; omega
      · obtain rfl : i = m1 := by omega
        have ilt : ¬ (i : Int) < (i : Int) := by omega
        have iltN : ¬ i < i := by omega
        have ieq : ((i : Int) == (i : Int)) = true := by simp
        have HV1 : Hid (Tb.Jv p A B i (j + 1) (out ++ [y]) C) := by have := HV0.out.right (by rw [H2.out]; exact hjl) (.inl (by rw [H1.out]; exact Nat.le_refl _)); rw [hy] at this; exact this
        clear hy
        go_upto_region 12 with (fail)
        refine wp_region_held_drew (S := fun w' => Kept [] wr w') (by kernel_rfl) ((Kept.refl [] wr).drew) (fun h0 => ?_)
        generalize World.drew wr = v0 at h0 ⊢
        refine wpAnyH_take (i := 0) (v := .int .i64 j) rfl (by kernel_rfl) (by kernel_rfl) (by kernel_rfl) (fun _ _ _ h => h) (Or.inl ⟨by rfl, fun w hSw => by go_simp⟩) h0 ?_
        try simp only [List.getElem_toArray, List.getElem_cons_zero, List.getElem_cons_succ, Act.put, List.setIfInBounds_toArray, List.set_cons_zero, List.set_cons_succ]
        refine wpAnyH_take (i := 1) (v := .slice (some ⟨b2, o2, none⟩) m2 d2) rfl (by kernel_rfl) (by kernel_rfl) (by kernel_rfl) (fun _ _ _ h => h) (Or.inl ⟨by rfl, fun w hSw => by go_simp⟩) h0 ?_
        try simp only [List.getElem_toArray, List.getElem_cons_zero, List.getElem_cons_succ, Act.put, List.setIfInBounds_toArray, List.set_cons_zero, List.set_cons_succ]
        refine wpAnyH_take (i := 2) (v := .int .i64 m2) rfl (by kernel_rfl) (by kernel_rfl) (by kernel_rfl) (fun _ _ _ h => h) (Or.inl ⟨by rfl, fun w hSw => by go_simp⟩) h0 ?_
        try simp only [List.getElem_toArray, List.getElem_cons_zero, List.getElem_cons_succ, Act.put, List.setIfInBounds_toArray, List.set_cons_zero, List.set_cons_succ]
        refine wpAnyH_take (i := 3) (v := .bool false) rfl (by kernel_rfl) (by kernel_rfl) (by kernel_rfl) (fun _ _ _ h => h) (Or.inl ⟨by rfl, fun w hSw => by have c0 := jeq; go_simp⟩) h0 ?_
        try simp only [List.getElem_toArray, List.getElem_cons_zero, List.getElem_cons_succ, Act.put, List.setIfInBounds_toArray, List.set_cons_zero, List.set_cons_succ]
        refine wpAnyH_take (i := 4) (v := .bool false) rfl (by kernel_rfl) (by kernel_rfl) (by kernel_rfl) (fun _ _ _ h => h) (Or.inl ⟨by rfl, fun w hSw => by go_simp⟩) h0 ?_
        try simp only [List.getElem_toArray, List.getElem_cons_zero, List.getElem_cons_succ, Act.put, List.setIfInBounds_toArray, List.set_cons_zero, List.set_cons_succ]
        refine wpAnyH_take (i := 5) (v := .int .i64 i) rfl (by kernel_rfl) (by kernel_rfl) (by kernel_rfl) (fun _ _ _ h => h) (Or.inl ⟨by rfl, fun w hSw => by go_simp⟩) h0 ?_
        try simp only [List.getElem_toArray, List.getElem_cons_zero, List.getElem_cons_succ, Act.put, List.setIfInBounds_toArray, List.set_cons_zero, List.set_cons_succ]
        refine wpAnyH_take (i := 6) (v := .slice x1 i d1) rfl (by kernel_rfl) (by kernel_rfl) (by kernel_rfl) (fun _ _ _ h => h) (Or.inl ⟨by rfl, fun w hSw => by go_simp⟩) h0 ?_
        try simp only [List.getElem_toArray, List.getElem_cons_zero, List.getElem_cons_succ, Act.put, List.setIfInBounds_toArray, List.set_cons_zero, List.set_cons_succ]
        refine wpAnyH_take (i := 7) (v := .int .i64 i) rfl (by kernel_rfl) (by kernel_rfl) (by kernel_rfl) (fun _ _ _ h => h) (Or.inl ⟨by rfl, fun w hSw => by go_simp⟩) h0 ?_
        try simp only [List.getElem_toArray, List.getElem_cons_zero, List.getElem_cons_succ, Act.put, List.setIfInBounds_toArray, List.set_cons_zero, List.set_cons_succ]
        refine wpAnyH_take (i := 8) (v := .bool false) rfl (by kernel_rfl) (by kernel_rfl) (by kernel_rfl) (fun _ _ _ h => h) (Or.inl ⟨by rfl, fun w hSw => by have c0 := ilt; have c1 := iltN; go_simp⟩) h0 ?_
        try simp only [List.getElem_toArray, List.getElem_cons_zero, List.getElem_cons_succ, Act.put, List.setIfInBounds_toArray, List.set_cons_zero, List.set_cons_succ]
        refine wpAnyH_take (i := 9) (v := .bool false) rfl (by kernel_rfl) (by kernel_rfl) (by kernel_rfl) (fun _ _ _ h => h) (Or.inl ⟨by rfl, fun w hSw => by go_simp⟩) h0 ?_
        try simp only [List.getElem_toArray, List.getElem_cons_zero, List.getElem_cons_succ, Act.put, List.setIfInBounds_toArray, List.set_cons_zero, List.set_cons_succ]
        refine wpAnyH_take (i := 10) (v := undef) rfl (by kernel_rfl) (by kernel_rfl) (by kernel_rfl) (fun _ _ _ h => h) (Or.inr ⟨by rfl, rfl⟩) h0 ?_
        try simp only [List.getElem_toArray, List.getElem_cons_zero, List.getElem_cons_succ, Act.put, List.setIfInBounds_toArray, List.set_cons_zero, List.set_cons_succ]
        refine wpAnyH_take (i := 11) (v := undef) rfl (by kernel_rfl) (by kernel_rfl) (by kernel_rfl) (fun _ _ _ h => h) (Or.inr ⟨by rfl, rfl⟩) h0 ?_
        try simp only [List.getElem_toArray, List.getElem_cons_zero, List.getElem_cons_succ, Act.put, List.setIfInBounds_toArray, List.set_cons_zero, List.set_cons_succ]
        refine wpAnyH_take (i := 12) (v := undef) rfl (by kernel_rfl) (by kernel_rfl) (by kernel_rfl) (fun _ _ _ h => h) (Or.inr ⟨by rfl, rfl⟩) h0 ?_
        try simp only [List.getElem_toArray, List.getElem_cons_zero, List.getElem_cons_succ, Act.put, List.setIfInBounds_toArray, List.set_cons_zero, List.set_cons_succ]
        refine wpAnyH_take (i := 13) (v := undef) rfl (by kernel_rfl) (by kernel_rfl) (by kernel_rfl) (fun _ _ _ h => h) (Or.inr ⟨by rfl, rfl⟩) h0 ?_
        try simp only [List.getElem_toArray, List.getElem_cons_zero, List.getElem_cons_succ, Act.put, List.setIfInBounds_toArray, List.set_cons_zero, List.set_cons_succ]
        refine wpAnyH_take (i := 14) (v := undef) rfl (by kernel_rfl) (by kernel_rfl) (by kernel_rfl) (fun _ _ _ h => h) (Or.inr ⟨by rfl, rfl⟩) h0 ?_
        try simp only [List.getElem_toArray, List.getElem_cons_zero, List.getElem_cons_succ, Act.put, List.setIfInBounds_toArray, List.set_cons_zero, List.set_cons_succ]
        refine wpAnyH_take (i := 15) (v := undef) rfl (by kernel_rfl) (by kernel_rfl) (by kernel_rfl) (fun _ _ _ h => h) (Or.inr ⟨by rfl, rfl⟩) h0 ?_
        try simp only [List.getElem_toArray, List.getElem_cons_zero, List.getElem_cons_succ, Act.put, List.setIfInBounds_toArray, List.set_cons_zero, List.set_cons_succ]
        refine wpAnyH_take (i := 16) (v := undef) rfl (by kernel_rfl) (by kernel_rfl) (by kernel_rfl) (fun _ _ _ h => h) (Or.inr ⟨by rfl, rfl⟩) h0 ?_
        try simp only [List.getElem_toArray, List.getElem_cons_zero, List.getElem_cons_succ, Act.put, List.setIfInBounds_toArray, List.set_cons_zero, List.set_cons_succ]
        refine wpAnyH_take (i := 17) (v := undef) rfl (by kernel_rfl) (by kernel_rfl) (by kernel_rfl) (fun _ _ _ h => h) (Or.inr ⟨by rfl, rfl⟩) h0 ?_
        try simp only [List.getElem_toArray, List.getElem_cons_zero, List.getElem_cons_succ, Act.put, List.setIfInBounds_toArray, List.set_cons_zero, List.set_cons_succ]
        refine wpAnyH_take (i := 18) (v := undef) rfl (by kernel_rfl) (by kernel_rfl) (by kernel_rfl) (fun _ _ _ h => h) (Or.inr ⟨by rfl, rfl⟩) h0 ?_
        try simp only [List.getElem_toArray, List.getElem_cons_zero, List.getElem_cons_succ, Act.put, List.setIfInBounds_toArray, List.set_cons_zero, List.set_cons_succ]
        refine wpAnyH_take (i := 19) (v := undef) rfl (by kernel_rfl) (by kernel_rfl) (by kernel_rfl) (fun _ _ _ h => h) (Or.inr ⟨by rfl, rfl⟩) h0 ?_
        try simp only [List.getElem_toArray, List.getElem_cons_zero, List.getElem_cons_succ, Act.put, List.setIfInBounds_toArray, List.set_cons_zero, List.set_cons_succ]
        refine wpAnyH_take (i := 20) (v := undef) rfl (by kernel_rfl) (by kernel_rfl) (by kernel_rfl) (fun _ _ _ h => h) (Or.inr ⟨by rfl, rfl⟩) h0 ?_
        try simp only [List.getElem_toArray, List.getElem_cons_zero, List.getElem_cons_succ, Act.put, List.setIfInBounds_toArray, List.set_cons_zero, List.set_cons_succ]
        refine wpAnyH_take (i := 21) (v := undef) rfl (by kernel_rfl) (by kernel_rfl) (by kernel_rfl) (fun _ _ _ h => h) (Or.inr ⟨by rfl, rfl⟩) h0 ?_
        try simp only [List.getElem_toArray, List.getElem_cons_zero, List.getElem_cons_succ, Act.put, List.setIfInBounds_toArray, List.set_cons_zero, List.set_cons_succ]
        refine wpAnyH_take (i := 22) (v := .bool false) rfl (by kernel_rfl) (by kernel_rfl) (by kernel_rfl) (fun _ _ _ h => h) (Or.inl ⟨by rfl, fun w hSw => by go_simp⟩) h0 ?_
        try simp only [List.getElem_toArray, List.getElem_cons_zero, List.getElem_cons_succ, Act.put, List.setIfInBounds_toArray, List.set_cons_zero, List.set_cons_succ]
        refine wpAnyH_take (i := 23) (v := .bool false) rfl (by kernel_rfl) (by kernel_rfl) (by kernel_rfl) (fun _ _ _ h => h) (Or.inl ⟨by rfl, fun w hSw => by go_simp⟩) h0 ?_
        try simp only [List.getElem_toArray, List.getElem_cons_zero, List.getElem_cons_succ, Act.put, List.setIfInBounds_toArray, List.set_cons_zero, List.set_cons_succ]
        refine wpAnyH_done (by kernel_rfl) ?_ _
        have HVa : Hid (Kept [] wr v0) := h0
        clear h0
        obtain ⟨V1, hV1⟩ : ∃ V, V = v0 := ⟨_, rfl⟩
        subst hV1
        go_upto_region 15 with (fail)
        refine wp_region_held_drew (S := fun w' => Kept [] V1 w') (by kernel_rfl) ((Kept.refl [] V1).drew) (fun h0 => ?_)
        generalize World.drew V1 = v0 at h0 ⊢
        refine wpAnyH_take (i := 0) (v := .int .i64 i) rfl (by kernel_rfl) (by kernel_rfl) (by kernel_rfl) (fun _ _ _ h => h) (Or.inl ⟨by rfl, fun w hSw => by go_simp⟩) h0 ?_
        try simp only [List.getElem_toArray, List.getElem_cons_zero, List.getElem_cons_succ, Act.put, List.setIfInBounds_toArray, List.set_cons_zero, List.set_cons_succ]
        refine wpAnyH_take (i := 1) (v := .slice x1 i d1) rfl (by kernel_rfl) (by kernel_rfl) (by kernel_rfl) (fun _ _ _ h => h) (Or.inl ⟨by rfl, fun w hSw => by go_simp⟩) h0 ?_
        try simp only [List.getElem_toArray, List.getElem_cons_zero, List.getElem_cons_succ, Act.put, List.setIfInBounds_toArray, List.set_cons_zero, List.set_cons_succ]
        refine wpAnyH_take (i := 2) (v := .int .i64 i) rfl (by kernel_rfl) (by kernel_rfl) (by kernel_rfl) (fun _ _ _ h => h) (Or.inl ⟨by rfl, fun w hSw => by go_simp⟩) h0 ?_
        try simp only [List.getElem_toArray, List.getElem_cons_zero, List.getElem_cons_succ, Act.put, List.setIfInBounds_toArray, List.set_cons_zero, List.set_cons_succ]
        refine wpAnyH_take (i := 3) (v := .bool true) rfl (by kernel_rfl) (by kernel_rfl) (by kernel_rfl) (fun _ _ _ h => h) (Or.inl ⟨by rfl, fun w hSw => by have c0 := ieq; go_simp⟩) h0 ?_
        try simp only [List.getElem_toArray, List.getElem_cons_zero, List.getElem_cons_succ, Act.put, List.setIfInBounds_toArray, List.set_cons_zero, List.set_cons_succ]
        refine wpAnyH_take (i := 4) (v := .bool true) rfl (by kernel_rfl) (by kernel_rfl) (by kernel_rfl) (fun _ _ _ h => h) (Or.inl ⟨by rfl, fun w hSw => by go_simp⟩) h0 ?_
        try simp only [List.getElem_toArray, List.getElem_cons_zero, List.getElem_cons_succ, Act.put, List.setIfInBounds_toArray, List.set_cons_zero, List.set_cons_succ]
        refine wpAnyH_take (i := 5) (v := undef) rfl (by kernel_rfl) (by kernel_rfl) (by kernel_rfl) (fun _ _ _ h => h) (Or.inr ⟨by rfl, rfl⟩) h0 ?_
        try simp only [List.getElem_toArray, List.getElem_cons_zero, List.getElem_cons_succ, Act.put, List.setIfInBounds_toArray, List.set_cons_zero, List.set_cons_succ]
        refine wpAnyH_take (i := 6) (v := undef) rfl (by kernel_rfl) (by kernel_rfl) (by kernel_rfl) (fun _ _ _ h => h) (Or.inr ⟨by rfl, rfl⟩) h0 ?_
        try simp only [List.getElem_toArray, List.getElem_cons_zero, List.getElem_cons_succ, Act.put, List.setIfInBounds_toArray, List.set_cons_zero, List.set_cons_succ]
        refine wpAnyH_take (i := 7) (v := undef) rfl (by kernel_rfl) (by kernel_rfl) (by kernel_rfl) (fun _ _ _ h => h) (Or.inr ⟨by rfl, rfl⟩) h0 ?_
        try simp only [List.getElem_toArray, List.getElem_cons_zero, List.getElem_cons_succ, Act.put, List.setIfInBounds_toArray, List.set_cons_zero, List.set_cons_succ]
        refine wpAnyH_take (i := 8) (v := undef) rfl (by kernel_rfl) (by kernel_rfl) (by kernel_rfl) (fun _ _ _ h => h) (Or.inr ⟨by rfl, rfl⟩) h0 ?_
        try simp only [List.getElem_toArray, List.getElem_cons_zero, List.getElem_cons_succ, Act.put, List.setIfInBounds_toArray, List.set_cons_zero, List.set_cons_succ]
        refine wpAnyH_take (i := 9) (v := undef) rfl (by kernel_rfl) (by kernel_rfl) (by kernel_rfl) (fun _ _ _ h => h) (Or.inr ⟨by rfl, rfl⟩) h0 ?_
        try simp only [List.getElem_toArray, List.getElem_cons_zero, List.getElem_cons_succ, Act.put, List.setIfInBounds_toArray, List.set_cons_zero, List.set_cons_succ]
        refine wpAnyH_take (i := 10) (v := undef) rfl (by kernel_rfl) (by kernel_rfl) (by kernel_rfl) (fun _ _ _ h => h) (Or.inr ⟨by rfl, rfl⟩) h0 ?_
        try simp only [List.getElem_toArray, List.getElem_cons_zero, List.getElem_cons_succ, Act.put, List.setIfInBounds_toArray, List.set_cons_zero, List.set_cons_succ]
        refine wpAnyH_take (i := 11) (v := undef) rfl (by kernel_rfl) (by kernel_rfl) (by kernel_rfl) (fun _ _ _ h => h) (Or.inr ⟨by rfl, rfl⟩) h0 ?_
        try simp only [List.getElem_toArray, List.getElem_cons_zero, List.getElem_cons_succ, Act.put, List.setIfInBounds_toArray, List.set_cons_zero, List.set_cons_succ]
        refine wpAnyH_take (i := 12) (v := undef) rfl (by kernel_rfl) (by kernel_rfl) (by kernel_rfl) (fun _ _ _ h => h) (Or.inr ⟨by rfl, rfl⟩) h0 ?_
        try simp only [List.getElem_toArray, List.getElem_cons_zero, List.getElem_cons_succ, Act.put, List.setIfInBounds_toArray, List.set_cons_zero, List.set_cons_succ]
        refine wpAnyH_take (i := 13) (v := undef) rfl (by kernel_rfl) (by kernel_rfl) (by kernel_rfl) (fun _ _ _ h => h) (Or.inr ⟨by rfl, rfl⟩) h0 ?_
        try simp only [List.getElem_toArray, List.getElem_cons_zero, List.getElem_cons_succ, Act.put, List.setIfInBounds_toArray, List.set_cons_zero, List.set_cons_succ]
        refine wpAnyH_take (i := 14) (v := undef) rfl (by kernel_rfl) (by kernel_rfl) (by kernel_rfl) (fun _ _ _ h => h) (Or.inr ⟨by rfl, rfl⟩) h0 ?_
        try simp only [List.getElem_toArray, List.getElem_cons_zero, List.getElem_cons_succ, Act.put, List.setIfInBounds_toArray, List.set_cons_zero, List.set_cons_succ]
        refine wpAnyH_take (i := 15) (v := undef) rfl (by kernel_rfl) (by kernel_rfl) (by kernel_rfl) (fun _ _ _ h => h) (Or.inr ⟨by rfl, rfl⟩) h0 ?_
        try simp only [List.getElem_toArray, List.getElem_cons_zero, List.getElem_cons_succ, Act.put, List.setIfInBounds_toArray, List.set_cons_zero, List.set_cons_succ]
        refine wpAnyH_take (i := 16) (v := undef) rfl (by kernel_rfl) (by kernel_rfl) (by kernel_rfl) (fun _ _ _ h => h) (Or.inr ⟨by rfl, rfl⟩) h0 ?_
        try simp only [List.getElem_toArray, List.getElem_cons_zero, List.getElem_cons_succ, Act.put, List.setIfInBounds_toArray, List.set_cons_zero, List.set_cons_succ]
        refine wpAnyH_take (i := 17) (v := .bool true) rfl (by kernel_rfl) (by kernel_rfl) (by kernel_rfl) (fun _ _ _ h => h) (Or.inl ⟨by rfl, fun w hSw => by go_simp⟩) h0 ?_
        try simp only [List.getElem_toArray, List.getElem_cons_zero, List.getElem_cons_succ, Act.put, List.setIfInBounds_toArray, List.set_cons_zero, List.set_cons_succ]
        refine wpAnyH_done (by kernel_rfl) ?_ _
        have HV : Hid (Kept [] wr v0) := HVa.out.trans h0 (by simp)
        clear h0 HVa
        obtain ⟨V2, hV2⟩ : ∃ V, V = v0 := ⟨_, rfl⟩
        subst hV2
        obtain ⟨v1, w2, hrun1, hJ1⟩ := (HJ.out.more HV.out).app y (by have := HV0.out.lo; omega)
        have H1 := hide hJ1
        clear hJ1
        have rY : V2.rangeAt b2 (o2 + j * 65) y.cells := fun q v hv => HV.out.cellOf (HYw.out q v hv) (by simp)
        go_wp2_with (first
          | refine wpList_load_mid rfl 39 (.tmp 96) rfl b2 (o2 + j * 65) rfl y.cells _ rY Try.underlying39 rfl iy ?_
          | refine wpList_buildOne rfl (.tmp 97) rfl y rfl ?_
          | refine wpList_app_run rfl (.tmp 93) (.tmp 98) 22 22 rfl u11 (.slice (some ⟨V2.heap.size, 0, none⟩) 1 1) rfl rfl v1 w2 hrun1 ?_)
        go_roundw
        case rel => exact ⟨i, j + 1, out ++ [y], C, hi, by omega, rfl, by go_num, HV1.out, H1.out⟩
        case measure => simp [intOf]; omega
    · obtain rfl : j = m2 := by omega
      have jeq : ((j : Int) == (j : Int)) = true := by simp
      by_cases hil : i < m1
      · have iltN : i < m1 := hil
        have ilt : (i : Int) < (m1 : Int) := by omega
        obtain ⟨b1, o1, rfl, hri⟩ := (HA.out.kept HJ.out.k (by simp)) i (by rw [H1.out]; exact hil)
        have HXw := hide hri
        clear hri
        have HV1 := hide (HV0.out.left (by rw [H1.out]; exact hil) (.inl (by rw [H2.out]; exact Nat.le_refl _)))
        generalize A.getD i res0 = x at HXw HV1
        have ix : (Try.prog.info? 39).map (·.size) = some x.cells.length := by rw [x.len]; exact Try.infoResS
        go_upto_region 12 with (fail)
        refine wp_region_held_drew (S := fun w' => Kept [] wr w') (by kernel_rfl) ((Kept.refl [] wr).drew) (fun h0 => ?_)
        generalize World.drew wr = v0 at h0 ⊢
        refine wpAnyH_take (i := 0) (v := .int .i64 j) rfl (by kernel_rfl) (by kernel_rfl) (by kernel_rfl) (fun _ _ _ h => h) (Or.inl ⟨by rfl, fun w hSw => by go_simp⟩) h0 ?_
        try simp only [List.getElem_toArray, List.getElem_cons_zero, List.getElem_cons_succ, Act.put, List.setIfInBounds_toArray, List.set_cons_zero, List.set_cons_succ]
        refine wpAnyH_take (i := 1) (v := .slice x2 j d2) rfl (by kernel_rfl) (by kernel_rfl) (by kernel_rfl) (fun _ _ _ h => h) (Or.inl ⟨by rfl, fun w hSw => by go_simp⟩) h0 ?_
        try simp only [List.getElem_toArray, List.getElem_cons_zero, List.getElem_cons_succ, Act.put, List.setIfInBounds_toArray, List.set_cons_zero, List.set_cons_succ]
        refine wpAnyH_take (i := 2) (v := .int .i64 j) rfl (by kernel_rfl) (by kernel_rfl) (by kernel_rfl) (fun _ _ _ h => h) (Or.inl ⟨by rfl, fun w hSw => by go_simp⟩) h0 ?_
        try simp only [List.getElem_toArray, List.getElem_cons_zero, List.getElem_cons_succ, Act.put, List.setIfInBounds_toArray, List.set_cons_zero, List.set_cons_succ]
        refine wpAnyH_take (i := 3) (v := .bool true) rfl (by kernel_rfl) (by kernel_rfl) (by kernel_rfl) (fun _ _ _ h => h) (Or.inl ⟨by rfl, fun w hSw => by have c0 := jeq; go_simp⟩) h0 ?_
        try simp only [List.getElem_toArray, List.getElem_cons_zero, List.getElem_cons_succ, Act.put, List.setIfInBounds_toArray, List.set_cons_zero, List.set_cons_succ]
        refine wpAnyH_take (i := 4) (v := .bool true) rfl (by kernel_rfl) (by kernel_rfl) (by kernel_rfl) (fun _ _ _ h => h) (Or.inl ⟨by rfl, fun w hSw => by go_simp⟩) h0 ?_
        try simp only [List.getElem_toArray, List.getElem_cons_zero, List.getElem_cons_succ, Act.put, List.setIfInBounds_toArray, List.set_cons_zero, List.set_cons_succ]
        refine wpAnyH_take (i := 5) (v := undef) rfl (by kernel_rfl) (by kernel_rfl) (by kernel_rfl) (fun _ _ _ h => h) (Or.inr ⟨by rfl, rfl⟩) h0 ?_
        try simp only [List.getElem_toArray, List.getElem_cons_zero, List.getElem_cons_succ, Act.put, List.setIfInBounds_toArray, List.set_cons_zero, List.set_cons_succ]
        refine wpAnyH_take (i := 6) (v := undef) rfl (by kernel_rfl) (by kernel_rfl) (by kernel_rfl) (fun _ _ _ h => h) (Or.inr ⟨by rfl, rfl⟩) h0 ?_
        try simp only [List.getElem_toArray, List.getElem_cons_zero, List.getElem_cons_succ, Act.put, List.setIfInBounds_toArray, List.set_cons_zero, List.set_cons_succ]
        refine wpAnyH_take (i := 7) (v := undef) rfl (by kernel_rfl) (by kernel_rfl) (by kernel_rfl) (fun _ _ _ h => h) (Or.inr ⟨by rfl, rfl⟩) h0 ?_
        try simp only [List.getElem_toArray, List.getElem_cons_zero, List.getElem_cons_succ, Act.put, List.setIfInBounds_toArray, List.set_cons_zero, List.set_cons_succ]
        refine wpAnyH_take (i := 8) (v := undef) rfl (by kernel_rfl) (by kernel_rfl) (by kernel_rfl) (fun _ _ _ h => h) (Or.inr ⟨by rfl, rfl⟩) h0 ?_
        try simp only [List.getElem_toArray, List.getElem_cons_zero, List.getElem_cons_succ, Act.put, List.setIfInBounds_toArray, List.set_cons_zero, List.set_cons_succ]
        refine wpAnyH_take (i := 9) (v := undef) rfl (by kernel_rfl) (by kernel_rfl) (by kernel_rfl) (fun _ _ _ h => h) (Or.inr ⟨by rfl, rfl⟩) h0 ?_
        try simp only [List.getElem_toArray, List.getElem_cons_zero, List.getElem_cons_succ, Act.put, List.setIfInBounds_toArray, List.set_cons_zero, List.set_cons_succ]
        refine wpAnyH_take (i := 10) (v := undef) rfl (by kernel_rfl) (by kernel_rfl) (by kernel_rfl) (fun _ _ _ h => h) (Or.inr ⟨by rfl, rfl⟩) h0 ?_
        try simp only [List.getElem_toArray, List.getElem_cons_zero, List.getElem_cons_succ, Act.put, List.setIfInBounds_toArray, List.set_cons_zero, List.set_cons_succ]
        refine wpAnyH_take (i := 11) (v := undef) rfl (by kernel_rfl) (by kernel_rfl) (by kernel_rfl) (fun _ _ _ h => h) (Or.inr ⟨by rfl, rfl⟩) h0 ?_
        try simp only [List.getElem_toArray, List.getElem_cons_zero, List.getElem_cons_succ, Act.put, List.setIfInBounds_toArray, List.set_cons_zero, List.set_cons_succ]
        refine wpAnyH_take (i := 12) (v := undef) rfl (by kernel_rfl) (by kernel_rfl) (by kernel_rfl) (fun _ _ _ h => h) (Or.inr ⟨by rfl, rfl⟩) h0 ?_
        try simp only [List.getElem_toArray, List.getElem_cons_zero, List.getElem_cons_succ, Act.put, List.setIfInBounds_toArray, List.set_cons_zero, List.set_cons_succ]
        refine wpAnyH_take (i := 13) (v := undef) rfl (by kernel_rfl) (by kernel_rfl) (by kernel_rfl) (fun _ _ _ h => h) (Or.inr ⟨by rfl, rfl⟩) h0 ?_
        try simp only [List.getElem_toArray, List.getElem_cons_zero, List.getElem_cons_succ, Act.put, List.setIfInBounds_toArray, List.set_cons_zero, List.set_cons_succ]
        refine wpAnyH_take (i := 14) (v := undef) rfl (by kernel_rfl) (by kernel_rfl) (by kernel_rfl) (fun _ _ _ h => h) (Or.inr ⟨by rfl, rfl⟩) h0 ?_
        try simp only [List.getElem_toArray, List.getElem_cons_zero, List.getElem_cons_succ, Act.put, List.setIfInBounds_toArray, List.set_cons_zero, List.set_cons_succ]
        refine wpAnyH_take (i := 15) (v := undef) rfl (by kernel_rfl) (by kernel_rfl) (by kernel_rfl) (fun _ _ _ h => h) (Or.inr ⟨by rfl, rfl⟩) h0 ?_
        try simp only [List.getElem_toArray, List.getElem_cons_zero, List.getElem_cons_succ, Act.put, List.setIfInBounds_toArray, List.set_cons_zero, List.set_cons_succ]
        refine wpAnyH_take (i := 16) (v := undef) rfl (by kernel_rfl) (by kernel_rfl) (by kernel_rfl) (fun _ _ _ h => h) (Or.inr ⟨by rfl, rfl⟩) h0 ?_
        try simp only [List.getElem_toArray, List.getElem_cons_zero, List.getElem_cons_succ, Act.put, List.setIfInBounds_toArray, List.set_cons_zero, List.set_cons_succ]
        refine wpAnyH_take (i := 17) (v := undef) rfl (by kernel_rfl) (by kernel_rfl) (by kernel_rfl) (fun _ _ _ h => h) (Or.inr ⟨by rfl, rfl⟩) h0 ?_
        try simp only [List.getElem_toArray, List.getElem_cons_zero, List.getElem_cons_succ, Act.put, List.setIfInBounds_toArray, List.set_cons_zero, List.set_cons_succ]
        refine wpAnyH_take (i := 18) (v := undef) rfl (by kernel_rfl) (by kernel_rfl) (by kernel_rfl) (fun _ _ _ h => h) (Or.inr ⟨by rfl, rfl⟩) h0 ?_
        try simp only [List.getElem_toArray, List.getElem_cons_zero, List.getElem_cons_succ, Act.put, List.setIfInBounds_toArray, List.set_cons_zero, List.set_cons_succ]
        refine wpAnyH_take (i := 19) (v := undef) rfl (by kernel_rfl) (by kernel_rfl) (by kernel_rfl) (fun _ _ _ h => h) (Or.inr ⟨by rfl, rfl⟩) h0 ?_
        try simp only [List.getElem_toArray, List.getElem_cons_zero, List.getElem_cons_succ, Act.put, List.setIfInBounds_toArray, List.set_cons_zero, List.set_cons_succ]
        refine wpAnyH_take (i := 20) (v := undef) rfl (by kernel_rfl) (by kernel_rfl) (by kernel_rfl) (fun _ _ _ h => h) (Or.inr ⟨by rfl, rfl⟩) h0 ?_
        try simp only [List.getElem_toArray, List.getElem_cons_zero, List.getElem_cons_succ, Act.put, List.setIfInBounds_toArray, List.set_cons_zero, List.set_cons_succ]
        refine wpAnyH_take (i := 21) (v := undef) rfl (by kernel_rfl) (by kernel_rfl) (by kernel_rfl) (fun _ _ _ h => h) (Or.inr ⟨by rfl, rfl⟩) h0 ?_
        try simp only [List.getElem_toArray, List.getElem_cons_zero, List.getElem_cons_succ, Act.put, List.setIfInBounds_toArray, List.set_cons_zero, List.set_cons_succ]
        refine wpAnyH_take (i := 22) (v := undef) rfl (by kernel_rfl) (by kernel_rfl) (by kernel_rfl) (fun _ _ _ h => h) (Or.inr ⟨by rfl, rfl⟩) h0 ?_
        try simp only [List.getElem_toArray, List.getElem_cons_zero, List.getElem_cons_succ, Act.put, List.setIfInBounds_toArray, List.set_cons_zero, List.set_cons_succ]
        refine wpAnyH_take (i := 23) (v := .bool true) rfl (by kernel_rfl) (by kernel_rfl) (by kernel_rfl) (fun _ _ _ h => h) (Or.inl ⟨by rfl, fun w hSw => by go_simp⟩) h0 ?_
        try simp only [List.getElem_toArray, List.getElem_cons_zero, List.getElem_cons_succ, Act.put, List.setIfInBounds_toArray, List.set_cons_zero, List.set_cons_succ]
        refine wpAnyH_done (by kernel_rfl) ?_ _
        have HV : Hid (Kept [] wr v0) := h0
        clear h0
        obtain ⟨V1, hV1⟩ : ∃ V, V = v0 := ⟨_, rfl⟩
        subst hV1
        obtain ⟨v1, w2, hrun1, hJ1⟩ := (HJ.out.more HV.out).app x (by have := HV0.out.lo; omega)
        have H1 := hide hJ1
        clear hJ1
        have rX : V1.rangeAt b1 (o1 + i * 65) x.cells := fun q v hv => HV.out.cellOf (HXw.out q v hv) (by simp)
        go_wp2_with (first
          | refine wpList_load_mid rfl 39 (.tmp 69) rfl b1 (o1 + i * 65) rfl x.cells _ rX Try.underlying39 rfl ix ?_
          | refine wpList_buildOne rfl (.tmp 70) rfl x rfl ?_
          | refine wpList_app_run rfl (.tmp 66) (.tmp 71) 22 22 rfl u11 (.slice (some ⟨V1.heap.size, 0, none⟩) 1 1) rfl rfl v1 w2 hrun1 ?_)
        go_roundw
        case rel => exact ⟨i + 1, j, out ++ [x], C, by omega, hj, by go_num, rfl, HV1.out, H1.out⟩
        case measure => simp [intOf]; omega
      · obtain rfl : i = m1 := by omega
        have HF : Hid (Tb.join A B p = Tb.jn p out C) := HV0.out.fin HP.out (by rw [H1.out]; exact Nat.le_refl _) (by rw [H2.out]; exact Nat.le_refl _) HVA.out HVB.out
        obtain ⟨bo, bc, hbo, _⟩ := own_shape HJ.out.o
        obtain ⟨co, cc, hco, _⟩ := own_shape HJ.out.c.1
        subst hbo
        subst hco
        obtain ⟨z, hz⟩ : ∃ z, out.length = z := ⟨_, rfl⟩
        obtain ⟨q, hq⟩ : ∃ q, C.length = q := ⟨_, rfl⟩
        rw [hz, hq]
        have HJ2 : Hid (Jw w wr (.slice bo z bc) (.slice co q cc) out C) := by have := HJ.out; rw [hz, hq] at this; exact this
        have HZ := hide (And.intro hz hq)
        clear hz hq HJ
        by_cases h3 : p = 3 ∧ 0 < q
        · have p3 : (p == 3) = true := by simp [h3.1]
          have q3 : (0 : Int) < (q : Int) := by omega
          have HR : Hid (Tb.jn p out C = ([], C, 150)) := by
            show _ = _
            unfold Tb.jn
            rw [if_pos ⟨h3.1, fun e => by have := HZ.out.2; rw [e] at this; simp at this; omega⟩]
          clear h3
          go_wp2
          go_ret3
          rw [HF.out, HR.out]
          exact ⟨⟨_, _, rfl, OwnR.nil _ _, HJ2.out.c⟩, HJ2.out.k⟩
        · have HR : Hid (Tb.jn p out C = if 32 < z then ([], [], 97) else (out, C, 0)) := by
            show _ = _
            unfold Tb.jn
            rw [if_neg (fun e => h3 ⟨e.1, by have := List.length_pos_iff.2 e.2; rw [HZ.out.2] at this; exact this⟩), HZ.out.1]
          by_cases h32' : 32 < z
          · have z3 : (32 : Int) < (z : Int) := by omega
            by_cases p3' : p = 3
            · have p3 : (p == 3) = true := by simp [p3']
              have q3 : ¬ (0 : Int) < (q : Int) := by have := mt (And.intro p3') h3; omega
              clear p3' h3
              go_wp2
              go_ret3
              rw [HF.out, HR.out, if_pos h32']
              exact told_none HJ2.out.k
            · have p3 : (p == 3) = false := by simp [p3']
              clear p3' h3
              go_wp2
              go_ret3
              rw [HF.out, HR.out, if_pos h32']
              exact told_none HJ2.out.k
          · have z3 : ¬ (32 : Int) < (z : Int) := by omega
            by_cases p3' : p = 3
            · have p3 : (p == 3) = true := by simp [p3']
              have q3 : ¬ (0 : Int) < (q : Int) := by have := mt (And.intro p3') h3; omega
              clear p3' h3
              go_wp2
              go_ret3
              rw [HF.out, HR.out, if_neg h32']
              exact ⟨⟨_, _, rfl, HJ2.out.o, HJ2.out.c⟩, HJ2.out.k⟩
            · have p3 : (p == 3) = false := by simp [p3']
              clear p3' h3
              go_wp2
              go_ret3
              rw [HF.out, HR.out, if_neg h32']
              exact ⟨⟨_, _, rfl, HJ2.out.o, HJ2.out.c⟩, HJ2.out.k⟩

theorem refjoin_ok (x1 x2 : Option Addr) (m1 d1 m2 d2 : Nat) (A B : List Res) (p : Int) (w : World) (h1 : A.length = m1) (h2 : B.length = m2) (hA : Ress w x1 A) (hB : Ress w x2 B) (hm1 : m1 ≤ 4611686018427387904) (hm2 : m2 ≤ 4611686018427387904) :
    Calls Try.prog 26 #[.slice x1 m1 d1, .slice x2 m2 d2, .int .i64 p] w fun r w' => ToldJ w w' r (Tb.join A B p) := by
  by_cases hp : p < 1 ∨ 3 < p
  · have : Tb.join A B p = ([], [], 1) := by unfold Tb.join; rw [if_pos hp]
    rw [this]
    exact refjoin_arg x1 x2 m1 d1 m2 d2 p w hp
  · by_cases hv : Tb.valid A = false ∨ Tb.valid B = false
    · have : Tb.join A B p = ([], [], 80) := by unfold Tb.join; rw [if_neg hp, if_pos hv]
      rw [this]
      exact refjoin_bad x1 x2 m1 d1 m2 d2 A B p w hp h1 h2 hA hB hm1 hm2 hv
    · have hVA : Tb.valid A = true := by cases h : Tb.valid A with
        | true => rfl
        | false => exact absurd (.inl h) hv
      have hVB : Tb.valid B = true := by cases h : Tb.valid B with
        | true => rfl
        | false => exact absurd (.inr h) hv
      exact refjoin_go x1 x2 m1 d1 m2 d2 A B p w (by omega) h1 h2 hA hB hVA hVB
end Go.Proofs.Ytdeneflgldagpaa
