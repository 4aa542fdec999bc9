/-
  Contract: table.Join.
-/
import Derived.Test.YtmhnjhnnaciokaaZs
namespace Go.Proofs.Ytmhnjhnnaciokaa
open Go.RowKit Go.Sort
set_option linter.unusedVariables false
set_option linter.unusedSimpArgs false

set_option maxHeartbeats 3200000 in
set_option maxRecDepth 100000 in
theorem join_bad (x1 x2 : Option Addr) (m1 d1 m2 d2 : Nat) (A B : List Res) (p : Int) (w : World) (fk : Nat) (hp : pol p = some fk) (h1 : A.length = m1) (h2 : B.length = m2) (hA : ArgOk w ⟨x1, d1, A⟩) (hB : ArgOk w ⟨x2, d2, B⟩) (hm1 : m1 ≤ 4611686018427387904) (hm2 : m2 ≤ 4611686018427387904) (hv : Tb.valid A = false ∨ Tb.valid B = false) :
    Calls Try.prog 6 #[.slice x1 m1 d1, .slice x2 m2 d2, .int .i64 p] w fun r w' => ToldJ w w' r ([], [], 80) := by
  obtain ⟨w1, w2, w3, w4, e1, e2, e3, e4, g1, g2, g3, g4, hk⟩ := made w
  have hmk : (Instr.makeMap 53 none).run Try.prog w = .ok (.map (some w.heap.size)) w1 := by rw [← e1]; rfl
  have hlk := run_look w4 w.heap.size p g4
  rw [hp] at hlk
  have HK := hide hk
  have hva := valid_ok x1 m1 d1 A w4 h1 (hA.rs.kept hk (by simp)) hA.wo hm1
  have hvb : Hid (∀ W, Kept [] w W → Calls Try.prog 13 #[.slice x2 m2 d2] W fun e w' => e = .returned (.bool (Tb.valid B)) ∧ Kept [] W w') := fun W hk => valid_ok x2 m2 d2 B W h2 (hB.rs.kept hk (by simp)) hB.wo hm2
  clear hk hp e1 hA hB h1 h2
  cases hVA : Tb.valid A with
  | false =>
    rw [hVA] at hva
    clear hv hVA hvb
    go_enter Try.func6, Try.ntmps6
    go_wp2_with (first
    | (refine wpList_ins rfl (.tmp 13) _ _ rfl w.heap.size _ _ 1 (.func (.func 17) #[] #[]) rfl rfl rfl g1 rfl ?_; change wpList _ _ _ _ _ (putObj w1 w.heap.size (.map #[ent 1 17 0] 1)); rw [e2]; clear g1 e2)
    | (refine wpList_ins rfl (.tmp 13) _ _ rfl w.heap.size _ _ 2 (.func (.func 18) #[] #[]) rfl rfl rfl g2 rfl ?_; change wpList _ _ _ _ _ (putObj w2 w.heap.size (.map #[ent 1 17 0, ent 2 18 1] 2)); rw [e3]; clear g2 e3)
    | (refine wpList_ins rfl (.tmp 13) _ _ rfl w.heap.size _ _ 3 (.func (.func 19) #[] #[]) rfl rfl rfl g3 rfl ?_; change wpList _ _ _ _ _ (putObj w3 w.heap.size (.map es3 3)); rw [e4]; clear g3 e4)
    | (go_at_call 13; refine hva.mono ?_; rintro r w5 ⟨rfl, hk5⟩; have HK5 := hide hk5; clear hva hk5))
    go_ret3
    exact told_none (HK.out.trans HK5.out (by simp))
  | true =>
    rw [hVA] at hva
    have hVB : Tb.valid B = false := by rcases hv with h | h; · rw [hVA] at h; cases h
                                        · exact h
    rw [hVB] at hvb
    clear hv hVA hVB
    go_enter Try.func6, Try.ntmps6
    go_wp2_with (first
    | (refine wpList_ins rfl (.tmp 13) _ _ rfl w.heap.size _ _ 1 (.func (.func 17) #[] #[]) rfl rfl rfl g1 rfl ?_; change wpList _ _ _ _ _ (putObj w1 w.heap.size (.map #[ent 1 17 0] 1)); rw [e2]; clear g1 e2)
    | (refine wpList_ins rfl (.tmp 13) _ _ rfl w.heap.size _ _ 2 (.func (.func 18) #[] #[]) rfl rfl rfl g2 rfl ?_; change wpList _ _ _ _ _ (putObj w2 w.heap.size (.map #[ent 1 17 0, ent 2 18 1] 2)); rw [e3]; clear g2 e3)
    | (refine wpList_ins rfl (.tmp 13) _ _ rfl w.heap.size _ _ 3 (.func (.func 19) #[] #[]) rfl rfl rfl g3 rfl ?_; change wpList _ _ _ _ _ (putObj w3 w.heap.size (.map es3 3)); rw [e4]; clear g3 e4)
    | (go_at_call 13; refine hva.mono ?_; rintro r w5 ⟨rfl, hk5⟩; have HK5 : Hid (Kept [] w w5) := HK.out.trans hk5 (by simp); have hvc := hvb.out w5 HK5.out; clear hva hk5)
    | (go_at_call 13; refine hvc.mono ?_; rintro r w6 ⟨rfl, hk6⟩; have HK6 : Hid (Kept [] w w6) := HK5.out.trans hk6 (by simp); clear hvc hk6))
    go_ret3
    exact told_none HK6.out

theorem all_u (bo : Option Addr) (n1 c1 : Nat) (bi : Option Addr) (n2 c2 : Nat) (e : Int) : (#[.slice bo n1 c1, .slice bi n2 c2, .int .i64 e] : Array Value).all (·.oneCell') = true := by kernel_rfl

set_option maxHeartbeats 6400000 in
set_option maxRecDepth 100000 in
theorem join_go (x1 x2 : Option Addr) (m1 d1 m2 d2 : Nat) (A B : List Res) (p : Int) (w : World) (fk : Nat) (z : Res → Res → Res) (ec : Int) (hs : Settles fk z ec) (hp : pol p = some fk) (h1 : A.length = m1) (h2 : B.length = m2) (hA : ArgOk w ⟨x1, d1, A⟩) (hB : ArgOk w ⟨x2, d2, B⟩) (hd1 : m1 ≤ d1) (hd2 : m2 ≤ d2) (hdm1 : d1 ≤ 9223372036854775807) (hdm2 : d2 ≤ 9223372036854775807) (hVA : Tb.valid A = true) (hVB : Tb.valid B = true) (F : Tb.St) (hF : Tb.uni z ec A B ([], [], 0) = F) :
    Calls Try.prog 6 #[.slice x1 m1 d1, .slice x2 m2 d2, .int .i64 p] w fun r w' => ToldJ w w' r (if F.2.2 ≠ 0 then ([], F.2.1, F.2.2) else if 32 < F.1.length then ([], [], 97) else (F.1, F.2.1, 0)) := by
  obtain ⟨G, hG⟩ : ∃ G, (if F.2.2 ≠ 0 then ([], F.2.1, F.2.2) else if 32 < F.1.length then ([], [], 97) else (F.1, F.2.1, 0)) = G := ⟨_, rfl⟩
  rw [hG]
  have HGG := hide hG
  clear hG
  obtain ⟨w1, w2, w3, w4, e1, e2, e3, e4, g1, g2, g3, g4, hk⟩ := made w
  have hmk : (Instr.makeMap 53 none).run Try.prog w = .ok (.map (some w.heap.size)) w1 := by rw [← e1]; rfl
  have hlk := run_look w4 w.heap.size p g4
  rw [hp] at hlk
  have HK := hide hk
  have hm1 := Tb.valid_len hVA
  have hm2 := Tb.valid_len hVB
  rw [h1] at hm1
  rw [h2] at hm2
  have hva := valid_ok x1 m1 d1 A w4 h1 (hA.rs.kept hk (by simp)) hA.wo (by omega)
  have hvb : Hid (∀ W, Kept [] w W → Calls Try.prog 13 #[.slice x2 m2 d2] W fun e w' => e = .returned (.bool (Tb.valid B)) ∧ Kept [] W w') := fun W hk => valid_ok x2 m2 d2 B W h2 (hB.rs.kept hk (by simp)) hB.wo (by omega)
  have hun : Hid (∀ W, Kept [] w W → Calls Try.prog 20 #[.slice x1 m1 d1, .slice x2 m2 d2, .func (.func fk) #[] #[]] W fun r w' => ∃ bo n1 c1 bi n2 c2, r = .returned (.agg #[.slice bo n1 c1, .slice bi n2 c2, .int .i64 F.2.2]) ∧ n1 = F.1.length ∧ OwnR w' w.heap.size (.slice bo n1 c1) F.1 ∧ OwnI w' w.heap.size (.slice bi n2 c2) F.2.1 ∧ Kept [] W w') := fun W hkW => by
    refine (unite_ok x1 x2 m1 d1 m2 d2 A B W fk z ec hs h1 h2 ⟨hA.rs.kept hkW (by simp), hA.wo, hA.nl⟩ ⟨hB.rs.kept hkW (by simp), hB.wo, hB.nl⟩ hd1 hd2 hm1 hm2 hdm1 hdm2).mono ?_
    rintro r w' ⟨v, vc, rfl, hO, hI, hk'⟩
    rw [hF] at hO hI ⊢
    obtain ⟨bo, c1, rfl, _⟩ := own_shape hO
    obtain ⟨bi, c2, rfl, _⟩ := own_shape hI.1
    exact ⟨bo, _, c1, bi, _, c2, rfl, rfl, hO.base hkW.size, ⟨own_base hI.1 hkW.size, hI.2⟩, hk'⟩
  rw [hVA] at hva
  rw [hVB] at hvb
  have hz := Try.zeroUnion
  have iu : ∀ (p q : Value) (e : Int), (Try.prog.info? 57).map (·.size) = some [p, q, .int .i64 e].length := fun _ _ _ => by kernel_rfl
  clear hk hp e1 hA hB h1 h2 hVA hVB hF hs
  go_enter Try.func6, Try.ntmps6
  go_upto_region 8 with (first
    | (refine wpList_ins rfl (.tmp 13) _ _ rfl w.heap.size _ _ 1 (.func (.func 17) #[] #[]) rfl rfl rfl g1 rfl ?_; change wpList _ _ _ _ _ (putObj w1 w.heap.size (.map #[ent 1 17 0] 1)); rw [e2]; clear g1 e2)
    | (refine wpList_ins rfl (.tmp 13) _ _ rfl w.heap.size _ _ 2 (.func (.func 18) #[] #[]) rfl rfl rfl g2 rfl ?_; change wpList _ _ _ _ _ (putObj w2 w.heap.size (.map #[ent 1 17 0, ent 2 18 1] 2)); rw [e3]; clear g2 e3)
    | (refine wpList_ins rfl (.tmp 13) _ _ rfl w.heap.size _ _ 3 (.func (.func 19) #[] #[]) rfl rfl rfl g3 rfl ?_; change wpList _ _ _ _ _ (putObj w3 w.heap.size (.map es3 3)); rw [e4]; clear g3 e4)
    | (go_at_call 13; refine hva.mono ?_; rintro r w5 ⟨rfl, hk5⟩; have HK5 : Hid (Kept [] w w5) := HK.out.trans hk5 (by simp); have hvc := hvb.out w5 HK5.out; clear hva hk5)
    | (go_at_call 13; refine hvc.mono ?_; rintro r w6 ⟨rfl, hk6⟩; have HK6 : Hid (Kept [] w w6) := HK5.out.trans hk6 (by simp); have huu := hun.out w6 HK6.out; clear hvc hk6)
    | (go_at_call 20; refine huu.mono ?_; rintro r w7 ⟨bo, n1, c1, bi, n2, c2, rfl, hn1, hO7, hI7, hk7⟩; have HO7 : Hid (n1 = F.1.length ∧ OwnR w7 w.heap.size (.slice bo n1 c1) F.1 ∧ OwnI w7 w.heap.size (.slice bi n2 c2) F.2.1 ∧ Kept [] w w7) := ⟨hn1, hO7, hI7, HK6.out.trans hk7 (by simp)⟩; have hn7 := heap_new w7 (.cells zeroU 57); have hal7 : (#[.slice bo n1 c1, .slice bi n2 c2, .int .i64 F.2.2] : Array Value).all (·.oneCell') = true := all_u _ _ _ _ _ _ _; clear huu hk7 hn1 hO7 hI7)
    | refine wpList_store_rowTo rfl 57 (.tmp 12) (.tmp 34) rfl rfl w7.heap.size #[.slice bo n1 c1, .slice bi n2 c2, .int .i64 F.2.2] rfl rfl 57 zeroU hn7 (iu (.slice bo n1 c1) (.slice bi n2 c2) F.2.2) rfl hal7 ?_)
  have hrow : ((w7.alloc (.cells zeroU 57)).setRow w7.heap.size #[.slice bo n1 c1, .slice bi n2 c2, .int .i64 F.2.2]).heap[w7.heap.size]? = some (.cells #[.slice bo n1 c1, .slice bi n2 c2, .int .i64 F.2.2] 57 (0, 0)) := setRow_heap _ _ _ _ _ _ hn7
  have hk8 : Kept [] w7 ((w7.alloc (.cells zeroU 57)).setRow w7.heap.size #[.slice bo n1 c1, .slice bi n2 c2, .int .i64 F.2.2]) := ((Kept.refl [] w7).alloc _).trans (kept_row _ _ _) (by simp)
  generalize (w7.alloc (.cells zeroU 57)).setRow w7.heap.size #[.slice bo n1 c1, .slice bi n2 c2, .int .i64 F.2.2] = w8 at hrow hk8 ⊢
  generalize w7.heap.size = V at hrow ⊢
  have q0 : w8.cell? ⟨V, 0, none⟩ = some (.slice bo n1 c1) := by rw [cell_of_row _ _ _ _ _ _ hrow]; rfl
  have q1 : w8.cell? ⟨V, 1, none⟩ = some (.slice bi n2 c2) := by rw [cell_of_row _ _ _ _ _ _ hrow]; rfl
  have q2 : w8.cell? ⟨V, 2, none⟩ = some (.int .i64 F.2.2) := by rw [cell_of_row _ _ _ _ _ _ hrow]; rfl
  have HE : Hid (n1 = F.1.length ∧ OwnR w8 w.heap.size (.slice bo n1 c1) F.1 ∧ OwnI w8 w.heap.size (.slice bi n2 c2) F.2.1 ∧ Kept [] w w8) := ⟨HO7.out.1, HO7.out.2.1.kept hk8 (by simp), ⟨own_kept HO7.out.2.2.1.1 hk8 (by simp), HO7.out.2.2.1.2⟩, HO7.out.2.2.2.trans hk8 (by simp)⟩
  clear hrow hk8 HO7 hn7 hz iu hal7
  obtain ⟨E, hE⟩ : ∃ E, F.2.2 = E := ⟨_, rfl⟩
  rw [hE] at q2
  have HEE := hide hE
  clear hE
  by_cases hE0 : E = 0
  · subst hE0
    by_cases h32 : 32 < n1
    · have h32z : 32 < (n1 : Int) := by omega
      have HG : Hid (G = (([], [], 97) : Tb.St)) := by
        show _ = _
        rw [← HGG.out, HEE.out, ← HE.out.1]; simp [h32]
      go_wp2
      go_ret3
      rw [HG.out]
      exact told_none HE.out.2.2.2
    · have h32z : ¬ 32 < (n1 : Int) := by omega
      have HG : Hid (G = ((F.1, F.2.1, 0) : Tb.St)) := by
        show _ = _
        rw [← HGG.out, HEE.out, ← HE.out.1]; simp [h32]
      go_upto_region 12 with (fail)
      go_quiet (fail)
      go_wp2
      go_ret3
      rw [HG.out]
      exact ⟨⟨_, _, rfl, HE.out.2.1.kept ((Kept.refl [] w8).drewN _) (by simp), ⟨own_kept HE.out.2.2.1.1 ((Kept.refl [] w8).drewN _) (by simp), HE.out.2.2.1.2⟩⟩, HE.out.2.2.2.drewN _⟩
  · have hEz : (E != 0) = true := by simp [hE0]
    have HG : Hid (G = (([], F.2.1, E) : Tb.St)) := by
      show _ = _
      rw [← HGG.out, HEE.out]; simp [hE0]
    clear hE0
    go_upto_region 9 with (fail)
    go_quiet (fail)
    go_wp2
    go_ret3
    rw [HG.out]
    exact ⟨⟨_, _, rfl, OwnR.nil _ _, ⟨own_kept HE.out.2.2.1.1 ((Kept.refl [] w8).drewN _) (by simp), HE.out.2.2.1.2⟩⟩, HE.out.2.2.2.drewN _⟩

theorem pol_settles (p : Int) (fk : Nat) (h : pol p = some fk) : Settles fk (Tb.setl p) (Tb.sete p) ∧ ¬ (p < 1 ∨ 3 < p) := by
  unfold pol at h
  by_cases h1 : p = 1
  · subst h1
    simp at h
    subst h
    exact ⟨settle_keep, by omega⟩
  · by_cases h2 : p = 2
    · subst h2
      simp at h
      subst h
      exact ⟨settle_take, by omega⟩
    · by_cases h3 : p = 3
      · subst h3
        simp at h
        subst h
        exact ⟨settle_fail, by omega⟩
      · simp [h1, h2, h3] at h
theorem join_ok (x1 x2 : Option Addr) (m1 d1 m2 d2 : Nat) (A B : List Res) (p : Int) (w : World) (hm1 : m1 ≤ 4611686018427387904) (hm2 : m2 ≤ 4611686018427387904) (h1 : A.length = m1) (h2 : B.length = m2) (hA : ArgOk w ⟨x1, d1, A⟩) (hB : ArgOk w ⟨x2, d2, B⟩) (hd1 : m1 ≤ d1) (hd2 : m2 ≤ d2) (hdm1 : d1 ≤ 9223372036854775807) (hdm2 : d2 ≤ 9223372036854775807) :
    Calls Try.prog 6 #[.slice x1 m1 d1, .slice x2 m2 d2, .int .i64 p] w fun r w' => ToldJ w w' r (Tb.join A B p) := by
  unfold Tb.join
  cases hp : pol p with
  | none =>
    have : p < 1 ∨ 3 < p := by
      unfold pol at hp
      by_cases e1 : p = 1
      · simp [e1] at hp
      · by_cases e2 : p = 2
        · simp [e2] at hp
        · by_cases e3 : p = 3
          · simp [e3] at hp
          · omega
    rw [if_pos this]
    exact join_arg x1 x2 m1 d1 m2 d2 p w hp
  | some fk =>
    obtain ⟨hs, hno⟩ := pol_settles p fk hp
    rw [if_neg hno]
    by_cases hv : Tb.valid A = false ∨ Tb.valid B = false
    · rw [if_pos hv]
      exact join_bad x1 x2 m1 d1 m2 d2 A B p w fk hp h1 h2 hA hB hm1 hm2 hv
    · rw [if_neg hv]
      have hVA : Tb.valid A = true := by
        cases h : Tb.valid A with
        | true => rfl
        | false => exact absurd (.inl h) hv
      have hVB : Tb.valid B = true := by
        cases h : Tb.valid B with
        | true => rfl
        | false => exact absurd (.inr h) hv
      exact join_go x1 x2 m1 d1 m2 d2 A B p w fk _ _ hs hp h1 h2 hA hB hd1 hd2 hdm1 hdm2 hVA hVB _ rfl
end Go.Proofs.Ytmhnjhnnaciokaa
