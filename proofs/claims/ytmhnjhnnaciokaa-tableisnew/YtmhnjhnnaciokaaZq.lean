/-
  Contract: table.unite. (Written by tools/zq.py.)
-/
import Derived.Test.YtmhnjhnnaciokaaZp
namespace Go.Proofs.Ytmhnjhnnaciokaa
open Go.RowKit Go.Sort
set_option linter.unusedVariables false
set_option linter.unusedSimpArgs false

theorem ret_row {P : Program} {fn : Func} {p : Tmp} {ty : TypeId} {R : Ending → World → Prop} {a : Act} {w : World} (h : fn.results = #[.cell p ty]) (hd : a.defers = []) (g : Nat) (t : TypeId) (cs : Array Value) (fr : Nat × Nat) (d : TypeDesc)
    (hp : a.tmps.getD p undef = .pointer (some ⟨g, 0, none⟩)) (hg : w.heap[g]? = some (.cells cs t fr)) (hu : P.underlying ty = some d) (hx : (match d with | .struct _ | .array _ _ => true | _ => false) = true) (hi : (P.info? ty).map (·.size) = some cs.size) (hR : R (.returned (.agg cs)) w) : bodyPost P fn R .ret a w :=
  bodyPost_ret (results_cell_row h a.tmps w g t cs fr d hp hg hu hx hi) hd hR
namespace Tb
abbrev St := List Res × List (List UInt8) × Int
/-- P8.6: along both lists at once. -/
def uni (z : Res → Res → Res) (ec : Int) : List Res → List Res → St → St
  | [], B, s => (s.1 ++ B, s.2)
  | a :: A, [], s => (s.1 ++ a :: A, s.2)
  | a :: A, b :: B, s => if cf a b < 0 then uni z ec A (b :: B) (s.1 ++ [a], s.2) else if 0 < cf a b then uni z ec (a :: A) B (s.1 ++ [b], s.2) else uni z ec A B (both (z a b) ec a b s)
termination_by A B => A.length + B.length
theorem uni_left (z : Res → Res → Res) (ec : Int) (B : List Res) (s : St) : uni z ec [] B s = (s.1 ++ B, s.2) := by rw [uni]
theorem uni_right (z : Res → Res → Res) (ec : Int) (A : List Res) (s : St) : uni z ec A [] s = (s.1 ++ A, s.2) := by
  cases A with
  | nil => rw [uni]
  | cons a A => rw [uni]
theorem uni_lt (z : Res → Res → Res) (ec : Int) (a b : Res) (A B : List Res) (s : St) (h : cf a b < 0) : uni z ec (a :: A) (b :: B) s = uni z ec A (b :: B) (s.1 ++ [a], s.2) := by rw [uni, if_pos h]
theorem uni_gt (z : Res → Res → Res) (ec : Int) (a b : Res) (A B : List Res) (s : St) (h : 0 < cf a b) : uni z ec (a :: A) (b :: B) s = uni z ec (a :: A) B (s.1 ++ [b], s.2) := by rw [uni, if_neg (by omega), if_pos h]
theorem uni_eq (z : Res → Res → Res) (ec : Int) (a b : Res) (A B : List Res) (s : St) (h : cf a b = 0) : uni z ec (a :: A) (b :: B) s = uni z ec A B (both (z a b) ec a b s) := by rw [uni, if_neg (by omega), if_neg (by omega)]
theorem both_len (z : Res) (ec : Int) (x y : Res) (s : St) : (both z ec x y s).1.length ≤ s.1.length + 1 ∧ (both z ec x y s).2.1.length ≤ s.2.1.length + 1 := by
  unfold both
  split
  · simp
  · split <;> simp
end Tb
theorem Tb.uni_end (z : Res → Res → Res) (ec : Int) (A B : List Res) (s : Tb.St) (h : A = [] ∨ B = []) : Tb.uni z ec A B s = (s.1 ++ A ++ B, s.2) := by
  rcases h with rfl | rfl
  · rw [Tb.uni_left]; simp
  · rw [Tb.uni_right]; simp
theorem kept_row (w : World) (g : Nat) (cs : Array Value) : Kept [g] w (w.setRow g cs) := ⟨rfl, rfl, rfl, by rw [size_setRow]; exact Nat.le_refl _, fun k hk hn => setRow_other _ _ _ _ (by simpa using hn)⟩
theorem own_one {w : World} {base : Nat} {t : TypeId} {s : Nat} {v : Value} {n : Nat} {xs : List Value} (h : w.ownsRow base t s v n xs) : v.oneCell' = true := by
  obtain ⟨bo, bc, rfl, _⟩ := own_shape h
  rfl
theorem all3 {w0 w : World} {U : Nat} {v vc : Value} {R : List Res} {C : List (List UInt8)} {e : Int} (h : Un w0 w U v vc R C e) : (#[v, vc, .int .i64 e] : Array Value).all (·.oneCell') = true := by
  have h1 := own_one h.own
  have h2 := own_one h.ids.1
  simp [h1, h2]
  rfl
/-- What a policy makes of two results. -/
def Settles (fk : Nat) (z : Res → Res → Res) (ec : Int) : Prop :=
  (∀ x y W, Calls Try.prog fk #[.agg (Res.cells x).toArray, .agg (Res.cells y).toArray] W fun r w' => r = .returned (.tuple #[.agg (z x y).cells.toArray, .int .i64 ec]) ∧ Kept [] W w') ∧ ∀ args w, (callFunc fk args).run Try.prog w = .ok (.enter fk args) w
theorem both_ok {w0 w : World} {U : Nat} {v vc : Value} {R : List Res} {C : List (List UInt8)} {e : Int} (h : Un w0 w U v vc R C e) (x y : Res) {fk : Nat} {z : Res → Res → Res} {ec : Int} (hs : Settles fk z ec) (hb : (R.length + 1) * 72 ≤ 140737488355328) (hb2 : (C.length + 1) * 32 ≤ 140737488355328) :
    Calls Try.prog 36 #[.pointer (some ⟨U, 0, none⟩), .agg x.cells.toArray, .agg y.cells.toArray, .func (.func fk) #[] #[]] w fun r w' => r = .returned (.tuple #[]) ∧ ∃ v' vc', Un w0 w' U v' vc' (Tb.both (z x y) ec x y (R, C, e)).1 (Tb.both (z x y) ec x y (R, C, e)).2.1 (Tb.both (z x y) ec x y (R, C, e)).2.2 := by
  by_cases hxy : x = y
  · subst hxy
    refine (both_same h x (.func (.func fk) #[] #[]) hb).mono ?_
    rintro r w' ⟨rfl, v', hu⟩
    exact ⟨rfl, v', vc, by simpa [Tb.both] using hu⟩
  · refine (both_other h x y (z x y) fk ec hxy (hs.1 x y) hs.2 hb hb2).mono ?_
    rintro r w' ⟨rfl, v', vc', hu⟩
    refine ⟨rfl, v', vc', ?_⟩
    unfold Tb.both
    rw [if_neg hxy]
    by_cases hec : ec = 0
    · simpa [hec] using hu
    · simpa [hec] using hu
/-- Where a union stands: what is left of both lists, and what has come of the rest. -/
structure Us (w1 wr : World) (U : Nat) (z : Res → Res → Res) (ec : Int) (F : Tb.St) (N : Nat) (A B : List Res) (s : Tb.St) (v vc : Value) : Prop where
  un : Un w1 wr U v vc s.1 s.2.1 s.2.2
  eq : Tb.uni z ec A B s = F
  b1 : s.1.length + A.length + B.length ≤ N
  b2 : s.2.1.length + A.length + B.length ≤ N
theorem getD_zero {A : List Res} (h : A ≠ []) : A = A.getD 0 res0 :: A.drop 1 := by
  cases A with
  | nil => exact absurd rfl h
  | cons a A => rfl

set_option maxHeartbeats 6400000 in
set_option maxRecDepth 100000 in
theorem unite_ok (x1 x2 : Option Addr) (m1 d1 m2 d2 : Nat) (A0 B0 : List Res) (w : World) (fk : Nat) (z : Res → Res → Res) (ec : Int) (hs : Settles fk z ec) (h1 : A0.length = m1) (h2 : B0.length = m2) (hA : ArgOk w ⟨x1, d1, A0⟩) (hB : ArgOk w ⟨x2, d2, B0⟩) (hd1 : m1 ≤ d1) (hd2 : m2 ≤ d2) (hm1 : m1 ≤ 32) (hm2 : m2 ≤ 32) (hdm1 : d1 ≤ 9223372036854775807) (hdm2 : d2 ≤ 9223372036854775807) :
    Calls Try.prog 20 #[.slice x1 m1 d1, .slice x2 m2 d2, .func (.func fk) #[] #[]] w fun r w' => ∃ v vc, r = .returned (.agg #[v, vc, .int .i64 (Tb.uni z ec A0 B0 ([], [], 0)).2.2]) ∧ OwnR w' w.heap.size v (Tb.uni z ec A0 B0 ([], [], 0)).1 ∧ OwnI w' w.heap.size vc (Tb.uni z ec A0 B0 ([], [], 0)).2.1 ∧ Kept [] w w' := by
  obtain ⟨w1, hw1⟩ : ∃ w1, w.alloc (.cells zeroU 57) = w1 := ⟨_, rfl⟩
  have hT : w1.heap[w.heap.size]? = some (.cells zeroU 57 (0, 0)) := by rw [← hw1]; exact heap_new w _
  have hk1 : Kept [] w w1 := by rw [← hw1]; exact (Kept.refl [] w).alloc _
  obtain ⟨T, hTe⟩ : ∃ T, w.heap.size = T := ⟨_, rfl⟩
  have hs1 : w1.heap.size = T + 1 := by rw [← hw1, ← hTe]; simp
  have hU0 : Un w1 (w1.alloc (.cells zeroU 57)) w1.heap.size (.slice none 0 0) (.slice none 0 0) [] [] 0 :=
    ⟨heap_new w1 _, Nat.le_refl _, OwnR.nil _ _, ⟨World.ownsRow_nil _ _ _ _, by simp⟩, (Kept.refl [] w1).alloc _, by simp [Value.ownBlock], by simp [Value.ownBlock], by simp [Value.ownBlock]⟩
  have hA1 : ArgOk w1 ⟨x1, d1, A0⟩ := ⟨hA.rs.kept hk1 (by simp), hA.wo, hA.nl⟩
  have hB1 : ArgOk w1 ⟨x2, d2, B0⟩ := ⟨hB.rs.kept hk1 (by simp), hB.wo, hB.nl⟩
  rw [hTe] at hT ⊢
  have HW : Hid (T = w.heap.size ∧ w1.heap.size = T + 1 ∧ Kept [] w w1 ∧ w1.heap[T]? = some (.cells zeroU 57 (0, 0))) := ⟨hTe.symm, hs1, hk1, hT⟩
  obtain ⟨F, hF⟩ : ∃ F, Tb.uni z ec A0 B0 ([], [], 0) = F := ⟨_, rfl⟩
  rw [hF]
  have HUs : Hid (Us w1 (w1.alloc (.cells zeroU 57)) w1.heap.size z ec F 64 A0 B0 ([], [], 0) (.slice none 0 0) (.slice none 0 0)) := ⟨hU0, hF, by simp; omega, by simp; omega⟩
  have HAr : Hid ((A0.length = m1 ∧ ArgOk w1 ⟨x1, d1, A0⟩ ∧ m1 ≤ d1) ∧ (B0.length = m2 ∧ ArgOk w1 ⟨x2, d2, B0⟩ ∧ m2 ≤ d2)) := ⟨⟨h1, hA1, hd1⟩, ⟨h2, hB1, hd2⟩⟩
  have HS := hide hs
  have hz := Try.zeroUnion
  clear hs h1 h2 hA hB hU0 hA1 hB1 hF hT hk1
  go_enter Try.func20, Try.ntmps20
  go_wp2
  try rw [← hs1]
  generalize w1.alloc (.cells zeroU 57) = w2 at HUs ⊢
  generalize w1.heap.size = U at HUs ⊢
  clear hw1 hTe hs1
  go_loopw [0, 1] (fun p q wr => ∃ (a1 a2 : Option Addr) (n1 c1 n2 c2 : Nat), n1 ≤ 32 ∧ n2 ≤ 32 ∧ c1 ≤ 9223372036854775807 ∧ c2 ≤ 9223372036854775807 ∧ p = .slice a1 n1 c1 ∧ q = .slice a2 n2 c2 ∧ Hid (∃ A B s v vc, Us w1 wr U z ec F 64 A B s v vc ∧ (A.length = n1 ∧ ArgOk w1 ⟨a1, c1, A⟩ ∧ n1 ≤ c1) ∧ (B.length = n2 ∧ ArgOk w1 ⟨a2, c2, B⟩ ∧ n2 ≤ c2))) (fun p q wr => (match p with | .slice _ n _ => n | _ => 0) + (match q with | .slice _ n _ => n | _ => 0))
  case atStart => exact ⟨x1, x2, m1, d1, m2, d2, hm1, hm2, hdm1, hdm2, rfl, rfl, ⟨A0, B0, _, _, _, HUs.out, HAr.out.1, HAr.out.2⟩⟩
  case round =>
    clear HUs HAr
    obtain ⟨a1, a2, n1, c1, n2, c2, hn1, hn2, hc1, hc2, rfl, rfl, HI⟩ := hrel
    obtain ⟨A, B, s, v, vc, hus, ⟨hAl, hAo, hAc⟩, ⟨hBl, hBo, hBc⟩⟩ := HI.out
    clear HI
    by_cases hor : n1 = 0 ∨ n2 = 0
    · replace hor : A = [] ∨ B = [] := by
        rcases hor with h | h
        · exact .inl (List.eq_nil_of_length_eq_zero (by omega))
        · exact .inr (List.eq_nil_of_length_eq_zero (by omega))
      by_cases hz1 : n1 = 0
      · have hp1 : ¬ 0 < (n1 : Int) := by omega
        have hp1' : ¬ 0 < n1 := by omega
        have HZ1 := hide hz1
        clear hz1
        have hadd1 := add_ok hus.un a1 n1 c1 A (hAo.rs.kept hus.un.k (by simp)) hAl hAo.wo hAo.nl (by have := hus.b1; omega)
        have hfin : Hid (F = (s.1 ++ A ++ B, s.2)) := by show _ = _; rw [← hus.eq]; exact Tb.uni_end z ec A B s hor
        have HB2 : Hid (∀ W vq, Un w1 W U vq vc (s.1 ++ A) s.2.1 s.2.2 → Calls Try.prog 35 #[.pointer (some ⟨U, 0, none⟩), .slice a2 n2 c2] W fun r w' => r = .returned (.tuple #[]) ∧ ∃ v', Un w1 w' U v' vc (s.1 ++ A ++ B) s.2.1 s.2.2) := fun W vq hu => add_ok hu a2 n2 c2 B (hBo.rs.kept hu.k (by simp)) hBl hBo.wo hBo.nl (by rw [List.length_append]; have := hus.b1; omega)
        have iu : ∀ (p q : Value) (e : Int), (Try.prog.info? 57).map (·.size) = some [p, q, .int .i64 e].length := fun _ _ _ => by kernel_rfl
        clear hus hAo hBo hAl hBl hor
        go_wp2_with (first
          | (go_at_call 35; refine hadd1.mono ?_; rintro r w3 ⟨rfl, v3, hu3⟩; have hadd2 := HB2.out w3 v3 hu3; clear hadd1 hu3 HB2)
          | (go_at_call 35; refine hadd2.mono ?_; rintro r w4 ⟨rfl, v4, hu4⟩
             have hrow : w4.rangeAt U 0 [v4, vc, .int .i64 s.2.2] := (fun j u hj => by rw [Nat.zero_add, cell_of_row _ _ _ _ _ _ hu4.row]; simpa using hj)
             have hT4 : w4.heap[T]? = some (.cells zeroU 57 (0, 0)) := (by rw [hu4.k.block T (by have := HW.out.2.1; omega) (by simp)]; exact HW.out.2.2.2)
             have hal4 : (#[v4, vc, .int .i64 s.2.2] : Array Value).all (·.oneCell') = true := all3 hu4
             have HU4 := hide hu4
             clear hadd2 hu4)
          | refine wpList_load_mid rfl 57 (.tmp 7) rfl U 0 rfl [v4, vc, .int .i64 s.2.2] _ hrow Try.underlying57 rfl (iu _ _ _) ?_
          | refine wpList_store_rowTo rfl 57 (.tmp 6) (.tmp 60) rfl rfl T #[v4, vc, .int .i64 s.2.2] rfl rfl 57 zeroU hT4 (iu v4 vc s.2.2) rfl hal4 ?_)
        refine ret_row rfl rfl T 57 _ (0, 0) _ rfl (setRow_heap _ _ _ _ _ _ hT4) Try.underlying57 rfl (iu v4 vc s.2.2) ⟨v4, vc, by rw [hfin.out], ?_, ?_, ?_⟩
        · rw [hfin.out]
          exact (HU4.out.own.base (by have := HW.out.2.1; omega)).kept (kept_row w4 T _) (fun g hg => by have := (HU4.out.own.lt hg).1; have := HW.out; simp; omega)
        · rw [hfin.out]
          exact ⟨own_kept (own_base HU4.out.ids.1 (by have := HW.out.2.1; omega)) (kept_row w4 T _) (fun g hg => by have := (own_lt HU4.out.ids.1 hg).1; have := HW.out; simp; omega), HU4.out.ids.2⟩
        · exact (HW.out.2.2.1.trans HU4.out.k (by simp)).trans (kept_row w4 T _) (fun i hi hlt => by simp at hi; have := HW.out.1; omega)
      · have hz2 : n2 = 0 := by rcases hor with h | h; · rw [h] at hAl; simp at hAl; omega
                                · rw [h] at hBl; simp at hBl; omega
        have hp1 : 0 < (n1 : Int) := by omega
        have hp1' : 0 < n1 := by omega
        have hp2 : ¬ 0 < (n2 : Int) := by omega
        have hp2' : ¬ 0 < n2 := by omega
        have HZ2 := hide hz2
        clear hz1 hz2
        have hadd1 := add_ok hus.un a1 n1 c1 A (hAo.rs.kept hus.un.k (by simp)) hAl hAo.wo hAo.nl (by have := hus.b1; omega)
        have hfin : Hid (F = (s.1 ++ A ++ B, s.2)) := by show _ = _; rw [← hus.eq]; exact Tb.uni_end z ec A B s hor
        have HB2 : Hid (∀ W vq, Un w1 W U vq vc (s.1 ++ A) s.2.1 s.2.2 → Calls Try.prog 35 #[.pointer (some ⟨U, 0, none⟩), .slice a2 n2 c2] W fun r w' => r = .returned (.tuple #[]) ∧ ∃ v', Un w1 w' U v' vc (s.1 ++ A ++ B) s.2.1 s.2.2) := fun W vq hu => add_ok hu a2 n2 c2 B (hBo.rs.kept hu.k (by simp)) hBl hBo.wo hBo.nl (by rw [List.length_append]; have := hus.b1; omega)
        have iu : ∀ (p q : Value) (e : Int), (Try.prog.info? 57).map (·.size) = some [p, q, .int .i64 e].length := fun _ _ _ => by kernel_rfl
        clear hus hAo hBo hAl hBl hor
        go_wp2_with (first
          | (go_at_call 35; refine hadd1.mono ?_; rintro r w3 ⟨rfl, v3, hu3⟩; have hadd2 := HB2.out w3 v3 hu3; clear hadd1 hu3 HB2)
          | (go_at_call 35; refine hadd2.mono ?_; rintro r w4 ⟨rfl, v4, hu4⟩
             have hrow : w4.rangeAt U 0 [v4, vc, .int .i64 s.2.2] := (fun j u hj => by rw [Nat.zero_add, cell_of_row _ _ _ _ _ _ hu4.row]; simpa using hj)
             have hT4 : w4.heap[T]? = some (.cells zeroU 57 (0, 0)) := (by rw [hu4.k.block T (by have := HW.out.2.1; omega) (by simp)]; exact HW.out.2.2.2)
             have hal4 : (#[v4, vc, .int .i64 s.2.2] : Array Value).all (·.oneCell') = true := all3 hu4
             have HU4 := hide hu4
             clear hadd2 hu4)
          | refine wpList_load_mid rfl 57 (.tmp 7) rfl U 0 rfl [v4, vc, .int .i64 s.2.2] _ hrow Try.underlying57 rfl (iu _ _ _) ?_
          | refine wpList_store_rowTo rfl 57 (.tmp 6) (.tmp 60) rfl rfl T #[v4, vc, .int .i64 s.2.2] rfl rfl 57 zeroU hT4 (iu v4 vc s.2.2) rfl hal4 ?_)
        refine ret_row rfl rfl T 57 _ (0, 0) _ rfl (setRow_heap _ _ _ _ _ _ hT4) Try.underlying57 rfl (iu v4 vc s.2.2) ⟨v4, vc, by rw [hfin.out], ?_, ?_, ?_⟩
        · rw [hfin.out]
          exact (HU4.out.own.base (by have := HW.out.2.1; omega)).kept (kept_row w4 T _) (fun g hg => by have := (HU4.out.own.lt hg).1; have := HW.out; simp; omega)
        · rw [hfin.out]
          exact ⟨own_kept (own_base HU4.out.ids.1 (by have := HW.out.2.1; omega)) (kept_row w4 T _) (fun g hg => by have := (own_lt HU4.out.ids.1 hg).1; have := HW.out; simp; omega), HU4.out.ids.2⟩
        · exact (HW.out.2.2.1.trans HU4.out.k (by simp)).trans (kept_row w4 T _) (fun i hi hlt => by simp at hi; have := HW.out.1; omega)
    · have hor := hor
      have hA0 : A ≠ [] := by rintro rfl; simp at hAl; omega
      have hB0 : B ≠ [] := by rintro rfl; simp at hBl; omega
      obtain ⟨e1, k1, hcA, hAw, hAn⟩ := cut_lo hAo.rs hAl hAo.wo hAo.nl hAc 1 (by omega)
      obtain ⟨e2, k2, hcB, hBw, hBn⟩ := cut_lo hBo.rs hBl hBo.wo hBo.nl hBc 1 (by omega)
      obtain ⟨b1, o1, rfl, _, hrA⟩ := hAo.rs.open hA0
      obtain ⟨b2, o2, rfl, _, hrB⟩ := hBo.rs.open hB0
      have hr1 := hrA 0 (by show 0 < A.length; omega)
      have hr2 := hrB 0 (by show 0 < B.length; omega)
      simp only [Nat.zero_mul, Nat.add_zero] at hr1 hr2
      have hAe := getD_zero hA0
      have hBe := getD_zero hB0
      generalize A.getD 0 res0 = a at *
      generalize B.getD 0 res0 = b at *
      obtain ⟨N1, hN1⟩ : ∃ N1, n1 - 1 = N1 := ⟨_, rfl⟩
      obtain ⟨C1, hC1⟩ : ∃ C1, c1 - 1 = C1 := ⟨_, rfl⟩
      obtain ⟨N2, hN2⟩ : ∃ N2, n2 - 1 = N2 := ⟨_, rfl⟩
      obtain ⟨C2, hC2⟩ : ∃ C2, c2 - 1 = C2 := ⟨_, rfl⟩
      rw [hN1, hC1] at k1
      rw [hN2, hC2] at k2
      have one1 : ∀ W, (Instr.slice 22 (.slice (some ⟨b1, o1, none⟩) n1 c1) (some (.int .i64 1)) none none).run Try.prog W = .ok (.slice e1 N1 C1) W := k1
      have one2 : ∀ W, (Instr.slice 22 (.slice (some ⟨b2, o2, none⟩) n2 c2) (some (.int .i64 1)) none none).run Try.prog W = .ok (.slice e2 N2 C2) W := k2
      have HN : Hid (N1 + 1 = n1 ∧ N2 + 1 = n2 ∧ C1 + 1 = c1 ∧ C2 + 1 = c2) := ⟨by omega, by omega, by omega, by omega⟩
      have GA : Hid (A = a :: A.drop 1 ∧ (A.length = n1 ∧ ArgOk w1 ⟨some ⟨b1, o1, none⟩, c1, A⟩ ∧ n1 ≤ c1) ∧ ((A.drop 1).length = N1 ∧ ArgOk w1 ⟨e1, C1, A.drop 1⟩ ∧ N1 ≤ C1)) := ⟨hAe, ⟨hAl, hAo, hAc⟩, ⟨by rw [List.length_drop]; omega, ⟨hcA, hAw, fun h => by have : c1 - 1 = 0 := hAn h; show C1 = 0; omega⟩, by omega⟩⟩
      have GB : Hid (B = b :: B.drop 1 ∧ (B.length = n2 ∧ ArgOk w1 ⟨some ⟨b2, o2, none⟩, c2, B⟩ ∧ n2 ≤ c2) ∧ ((B.drop 1).length = N2 ∧ ArgOk w1 ⟨e2, C2, B.drop 1⟩ ∧ N2 ≤ C2)) := ⟨hBe, ⟨hBl, hBo, hBc⟩, ⟨by rw [List.length_drop]; omega, ⟨hcB, hBw, fun h => by have : c2 - 1 = 0 := hBn h; show C2 = 0; omega⟩, by omega⟩⟩
      have HU := hide hus.un
      have HE := hide hus.eq
      have HB1 : Hid (s.1.length + n1 + n2 ≤ 64 ∧ s.2.1.length + n1 + n2 ≤ 64) := ⟨by have := hus.b1; omega, by have := hus.b2; omega⟩
      have i1 : (Try.prog.info? 26).map (·.size) = some a.cells.length := by rw [a.len]; exact Try.infoResS
      have i2 : (Try.prog.info? 26).map (·.size) = some b.cells.length := by rw [b.len]; exact Try.infoResS
      have hcmp : ∀ W, Calls Try.prog 34 #[.agg a.cells.toArray, .agg b.cells.toArray] W fun r w' => r = .returned (.int .i64 (Tb.cf a b)) ∧ Kept [] W w' := fun W => (compare_ok a b W).mono fun _ _ ⟨he, q, os, hw⟩ => ⟨he, by rw [hw]; exact Kept.of_below (below_grown_sl W.heap.size W q os (Nat.le_refl _))⟩
      obtain ⟨D, hDe⟩ : ∃ D, Tb.cf a b = D := ⟨_, rfl⟩
      simp only [hDe] at hcmp
      have HD := hide hDe
      have hp1 : 0 < (n1 : Int) := by omega
      have hp2 : 0 < (n2 : Int) := by omega
      have hp1' : 0 < n1 := by omega
      have hp2' : 0 < n2 := by omega
      clear hus hAo hBo hAl hBl hcA hcB k1 k2 hAw hBw hAn hBn hrA hrB hAe hBe hDe hN1 hN2 hC1 hC2 hA0 hB0 hor hAc hBc
      go_upto_region 3 with (fail)
      refine wp_region_held_drew (S := fun w' => Kept [] w1 w') (by kernel_rfl) (HU.out.k.drew) (fun h0 => ?_)
      have hu0 := HU.out.more ((Kept.refl [] wr).drew)
      generalize World.drew wr = v0 at h0 hu0 ⊢
      refine wpAnyH_take (i := 0) (v := .slice (some ⟨b1, o1, none⟩) n1 c1) rfl (by kernel_rfl) (by kernel_rfl) (by kernel_rfl) (fun _ _ _ h => h) (Or.inl ⟨by rfl, fun w hSw => by go_simp⟩) h0 ?_
      try simp only [List.getElem_toArray, List.getElem_cons_zero, List.getElem_cons_succ, Act.put, List.setIfInBounds_toArray, List.set_cons_zero, List.set_cons_succ]
      refine wpAnyH_take (i := 1) (v := .pointer (some ⟨b1, o1, none⟩)) rfl (by kernel_rfl) (by kernel_rfl) (by kernel_rfl) (fun _ _ _ h => h) (Or.inl ⟨by rfl, fun w hSw => by go_simp⟩) h0 ?_
      try simp only [List.getElem_toArray, List.getElem_cons_zero, List.getElem_cons_succ, Act.put, List.setIfInBounds_toArray, List.set_cons_zero, List.set_cons_succ]
      refine wpAnyH_take (i := 2) rfl (by kernel_rfl) (by kernel_rfl) (by kernel_rfl) (fun _ _ _ h => h) (yieldsIf_load_mid (by rfl) _ _ rfl _ _ rfl _ _ (fun w h j v hv => Kept.cellOf h (hr1 j v hv) (by simp)) Try.underlying26 rfl i1) h0 ?_
      try simp only [List.getElem_toArray, List.getElem_cons_zero, List.getElem_cons_succ, Act.put, List.setIfInBounds_toArray, List.set_cons_zero, List.set_cons_succ]
      refine wpAnyH_take (i := 3) (v := .slice (some ⟨b2, o2, none⟩) n2 c2) rfl (by kernel_rfl) (by kernel_rfl) (by kernel_rfl) (fun _ _ _ h => h) (Or.inl ⟨by rfl, fun w hSw => by go_simp⟩) h0 ?_
      try simp only [List.getElem_toArray, List.getElem_cons_zero, List.getElem_cons_succ, Act.put, List.setIfInBounds_toArray, List.set_cons_zero, List.set_cons_succ]
      refine wpAnyH_take (i := 4) (v := .pointer (some ⟨b2, o2, none⟩)) rfl (by kernel_rfl) (by kernel_rfl) (by kernel_rfl) (fun _ _ _ h => h) (Or.inl ⟨by rfl, fun w hSw => by go_simp⟩) h0 ?_
      try simp only [List.getElem_toArray, List.getElem_cons_zero, List.getElem_cons_succ, Act.put, List.setIfInBounds_toArray, List.set_cons_zero, List.set_cons_succ]
      refine wpAnyH_take (i := 5) rfl (by kernel_rfl) (by kernel_rfl) (by kernel_rfl) (fun _ _ _ h => h) (yieldsIf_load_mid (by rfl) _ _ rfl _ _ rfl _ _ (fun w h j v hv => Kept.cellOf h (hr2 j v hv) (by simp)) Try.underlying26 rfl i2) h0 ?_
      try simp only [List.getElem_toArray, List.getElem_cons_zero, List.getElem_cons_succ, Act.put, List.setIfInBounds_toArray, List.set_cons_zero, List.set_cons_succ]
      refine wpAnyH_ready (rs := [6]) (by kernel_rfl) (by simp) (AllReadyH.cons (i := 6) rfl (fun K hK => ?_) AllReadyH.nil)
      rw [if_pos (by rfl)]
      go_simp
      refine (hcmp v0).mono ?_
      rintro r v1 ⟨rfl, hq⟩
      refine hK.out _ _ (h0.trans hq (by simp)) (fun h1 => ?_)
      have HU1 := hide (hu0.more hq)
      clear hK K hq h0 hu0
      try simp only [List.getElem_toArray, List.getElem_cons_zero, List.getElem_cons_succ, Act.put, List.setIfInBounds_toArray, List.set_cons_zero, List.set_cons_succ]
      refine wpAnyH_take (i := 7) (v := .int .i64 D) rfl (by kernel_rfl) (by kernel_rfl) (by kernel_rfl) (fun _ _ _ h => h) (Or.inl ⟨by rfl, fun w hSw => by go_simp⟩) h1 ?_
      try simp only [List.getElem_toArray, List.getElem_cons_zero, List.getElem_cons_succ, Act.put, List.setIfInBounds_toArray, List.set_cons_zero, List.set_cons_succ]
      refine wpAnyH_done (by kernel_rfl) ?_ _
      clear h1
      have hs1 : v1.rangeAt b1 o1 a.cells := fun j u hu => HU1.out.k.cellOf (hr1 j u hu) (by simp)
      have hs2 : v1.rangeAt b2 o2 b.cells := fun j u hu => HU1.out.k.cellOf (hr2 j u hu) (by simp)
      clear hcmp HU
      rcases Int.lt_trichotomy D 0 with hD | hD | hD
      · have hadd := add_ok (HU1.out.more ((Kept.refl [] v1).alloc (.cells a.cells.toArray 26))) (some ⟨v1.heap.size, 0, none⟩) 1 1 [a] (one_ress (res_range (heap_new v1 _))) rfl (.inr ⟨_, rfl⟩) (by simp) (by have := HB1.out; omega)
        have hD1 : D ≤ 0 := by omega
        have hD2 : ¬ 0 ≤ D := by omega
        clear hr1 hr2 hs2
        go_wp2_with (first
          | refine wpList_load_mid rfl 26 (.tmp 36) rfl b1 o1 rfl a.cells _ hs1 Try.underlying26 rfl i1 ?_
          | refine wpList_build1 rfl (.tmp 37) rfl a rfl ?_
          | (go_at_call 35; refine hadd.mono ?_; rintro r v2 ⟨rfl, v', hu2⟩; have HU2 := hide hu2; clear hu2 hadd))
        go_roundw
        case rel =>
          have g1 := GA.out
          have g2 := GB.out
          have hn := HN.out
          refine ⟨e1, _, N1, C1, n2, c2, by omega, hn2, by omega, hc2, rfl, rfl, ⟨A.drop 1, B, (s.1 ++ [a], s.2), v', vc, ⟨HU2.out, ?_, ?_, ?_⟩, g1.2.2, g2.2.1⟩⟩
          · rw [← HE.out]
            conv => rhs; rw [g1.1, g2.1]
            rw [Tb.uni_lt z ec a b _ _ s (by rw [HD.out]; exact hD), ← g2.1]
          · have := HB1.out; have := g1.2.2.1; have := g2.2.1.1; simp only [List.length_append, List.length_cons, List.length_nil]; omega
          · have := HB1.out; have := g1.2.2.1; have := g2.2.1.1; show s.2.1.length + _ + _ ≤ 64; omega
        case measure => have := HN.out; simp; omega
      · subst hD
        have HBOTH : Hid (∀ W, Un w1 W U v vc s.1 s.2.1 s.2.2 → Calls Try.prog 36 #[.pointer (some ⟨U, 0, none⟩), .agg a.cells.toArray, .agg b.cells.toArray, .func (.func fk) #[] #[]] W fun r w' => r = .returned (.tuple #[]) ∧ ∃ v' vc', Un w1 w' U v' vc' (Tb.both (z a b) ec a b (s.1, s.2.1, s.2.2)).1 (Tb.both (z a b) ec a b (s.1, s.2.1, s.2.2)).2.1 (Tb.both (z a b) ec a b (s.1, s.2.1, s.2.2)).2.2) := fun W hu => both_ok hu a b HS.out (by have := HB1.out; omega) (by have := HB1.out; omega)
        clear hs1 hs2
        go_upto_region 4 with (fail)
        refine wp_region_held_drew (S := fun w' => Kept [] w1 w') (by kernel_rfl) (HU1.out.k.drew) (fun h0 => ?_)
        have hu0 := HU1.out.more ((Kept.refl [] v1).drew)
        generalize World.drew v1 = v0 at h0 hu0 ⊢
        refine wpAnyH_take (i := 0) (v := .slice (some ⟨b1, o1, none⟩) n1 c1) rfl (by kernel_rfl) (by kernel_rfl) (by kernel_rfl) (fun _ _ _ h => h) (Or.inl ⟨by rfl, fun w hSw => by go_simp⟩) h0 ?_
        try simp only [List.getElem_toArray, List.getElem_cons_zero, List.getElem_cons_succ, Act.put, List.setIfInBounds_toArray, List.set_cons_zero, List.set_cons_succ]
        refine wpAnyH_take (i := 1) (v := .pointer (some ⟨b1, o1, none⟩)) rfl (by kernel_rfl) (by kernel_rfl) (by kernel_rfl) (fun _ _ _ h => h) (Or.inl ⟨by rfl, fun w hSw => by go_simp⟩) h0 ?_
        try simp only [List.getElem_toArray, List.getElem_cons_zero, List.getElem_cons_succ, Act.put, List.setIfInBounds_toArray, List.set_cons_zero, List.set_cons_succ]
        refine wpAnyH_take (i := 2) rfl (by kernel_rfl) (by kernel_rfl) (by kernel_rfl) (fun _ _ _ h => h) (yieldsIf_load_mid (by rfl) _ _ rfl _ _ rfl _ _ (fun w h j v hv => Kept.cellOf h (hr1 j v hv) (by simp)) Try.underlying26 rfl i1) h0 ?_
        try simp only [List.getElem_toArray, List.getElem_cons_zero, List.getElem_cons_succ, Act.put, List.setIfInBounds_toArray, List.set_cons_zero, List.set_cons_succ]
        refine wpAnyH_take (i := 3) (v := .slice (some ⟨b2, o2, none⟩) n2 c2) rfl (by kernel_rfl) (by kernel_rfl) (by kernel_rfl) (fun _ _ _ h => h) (Or.inl ⟨by rfl, fun w hSw => by go_simp⟩) h0 ?_
        try simp only [List.getElem_toArray, List.getElem_cons_zero, List.getElem_cons_succ, Act.put, List.setIfInBounds_toArray, List.set_cons_zero, List.set_cons_succ]
        refine wpAnyH_take (i := 4) (v := .pointer (some ⟨b2, o2, none⟩)) rfl (by kernel_rfl) (by kernel_rfl) (by kernel_rfl) (fun _ _ _ h => h) (Or.inl ⟨by rfl, fun w hSw => by go_simp⟩) h0 ?_
        try simp only [List.getElem_toArray, List.getElem_cons_zero, List.getElem_cons_succ, Act.put, List.setIfInBounds_toArray, List.set_cons_zero, List.set_cons_succ]
        refine wpAnyH_take (i := 5) rfl (by kernel_rfl) (by kernel_rfl) (by kernel_rfl) (fun _ _ _ h => h) (yieldsIf_load_mid (by rfl) _ _ rfl _ _ rfl _ _ (fun w h j v hv => Kept.cellOf h (hr2 j v hv) (by simp)) Try.underlying26 rfl i2) h0 ?_
        try simp only [List.getElem_toArray, List.getElem_cons_zero, List.getElem_cons_succ, Act.put, List.setIfInBounds_toArray, List.set_cons_zero, List.set_cons_succ]
        refine wpAnyH_take (i := 6) (v := .func (.func fk) #[] #[]) rfl (by kernel_rfl) (by kernel_rfl) (by kernel_rfl) (fun _ _ _ h => h) (Or.inl ⟨by rfl, fun w hSw => by go_simp⟩) h0 ?_
        try simp only [List.getElem_toArray, List.getElem_cons_zero, List.getElem_cons_succ, Act.put, List.setIfInBounds_toArray, List.set_cons_zero, List.set_cons_succ]
        refine wpAnyH_ready (rs := [7]) (by kernel_rfl) (by simp) (AllReadyH.cons (i := 7) rfl (fun K hK => ?_) AllReadyH.nil)
        rw [if_pos (by rfl)]
        go_simp
        refine (HBOTH.out v0 hu0).mono ?_
        rintro r v2 ⟨rfl, v', vc', hu2⟩
        refine hK.out _ _ hu2.k (fun _ => ?_)
        have HU2 := hide hu2
        clear hK K h0 hu0 hu2
        try simp only [List.getElem_toArray, List.getElem_cons_zero, List.getElem_cons_succ, Act.put, List.setIfInBounds_toArray, List.set_cons_zero, List.set_cons_succ]
        refine wpAnyH_done (by kernel_rfl) ?_ _
        clear HBOTH hr1 hr2
        go_wp2
        go_roundw
        case rel =>
          have g1 := GA.out
          have g2 := GB.out
          have hn := HN.out
          have hbl := Tb.both_len (z a b) ec a b s
          refine ⟨e1, e2, N1, C1, N2, C2, by omega, by omega, by omega, by omega, rfl, rfl, ⟨A.drop 1, B.drop 1, Tb.both (z a b) ec a b s, v', vc', ⟨HU2.out, ?_, ?_, ?_⟩, g1.2.2, g2.2.2⟩⟩
          · rw [← HE.out]
            conv => rhs; rw [g1.1, g2.1]
            rw [Tb.uni_eq z ec a b _ _ s HD.out]
          · have := HB1.out; have := g1.2.2.1; have := g2.2.2.1; omega
          · have := HB1.out; have := g1.2.2.1; have := g2.2.2.1; omega
        case measure => have := HN.out; simp; omega
      · have hadd := add_ok (HU1.out.more ((Kept.refl [] v1).alloc (.cells b.cells.toArray 26))) (some ⟨v1.heap.size, 0, none⟩) 1 1 [b] (one_ress (res_range (heap_new v1 _))) rfl (.inr ⟨_, rfl⟩) (by simp) (by have := HB1.out; omega)
        have hD0 : ¬ D < 0 := by omega
        have hD1 : ¬ D ≤ 0 := by omega
        have hD2 : 0 ≤ D := by omega
        clear hr1 hr2 hs1
        go_wp2_with (first
          | refine wpList_load_mid rfl 26 (.tmp 44) rfl b2 o2 rfl b.cells _ hs2 Try.underlying26 rfl i2 ?_
          | refine wpList_build1 rfl (.tmp 45) rfl b rfl ?_
          | (go_at_call 35; refine hadd.mono ?_; rintro r v2 ⟨rfl, v', hu2⟩; have HU2 := hide hu2; clear hu2 hadd))
        go_roundw
        case rel =>
          have g1 := GA.out
          have g2 := GB.out
          have hn := HN.out
          refine ⟨_, e2, n1, c1, N2, C2, hn1, by omega, hc1, by omega, rfl, rfl, ⟨A, B.drop 1, (s.1 ++ [b], s.2), v', vc, ⟨HU2.out, ?_, ?_, ?_⟩, g1.2.1, g2.2.2⟩⟩
          · rw [← HE.out]
            conv => rhs; rw [g1.1, g2.1]
            rw [Tb.uni_gt z ec a b _ _ s (by rw [HD.out]; exact hD), ← g1.1]
          · have := HB1.out; have := g1.2.1.1; have := g2.2.2.1; simp only [List.length_append, List.length_cons, List.length_nil]; omega
          · have := HB1.out; have := g1.2.1.1; have := g2.2.2.1; show s.2.1.length + _ + _ ≤ 64; omega
        case measure => have := HN.out; simp; omega
end Go.Proofs.Ytmhnjhnnaciokaa
