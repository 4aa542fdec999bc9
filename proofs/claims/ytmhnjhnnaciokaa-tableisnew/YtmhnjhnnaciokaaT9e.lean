/-
  The walk: freightlaw8.TableIsNew. (Written by tools/t9e.py.)
-/
import Derived.Test.YtmhnjhnnaciokaaT9m
import Derived.Test.YtmhnjhnnaciokaaT9p
import Derived.Test.YtmhnjhnnaciokaaZx
import Derived.Test.YtmhnjhnnaciokaaZv
namespace Go.Proofs.Ytmhnjhnnaciokaa
open Go.RowKit Go.Sort
set_option linter.unusedVariables false
set_option linter.unusedSimpArgs false

def sgm (i : Nat) : Nat := [0, 1, 2, 4, 5, 3].getD i 0
theorem sgm1 : ∀ i, i < 6 → sgm i < 6 := by decide
theorem sgm2 (i j : Nat) (hi : i < 6) (hj : j < 6) (hne : i ≠ j) : sgm i ≠ sgm j :=
  (by decide : ∀ i : Fin 6, ∀ j : Fin 6, i ≠ j → sgm i.1 ≠ sgm j.1) ⟨i, hi⟩ ⟨j, hj⟩ (fun h => hne (Fin.mk.inj h))

theorem encd_small (L : List Res) : (Tb.encd L).length ≤ 3000 := by
  unfold Tb.encd
  split
  · rename_i h
    have := Tb.valid_len h
    simp only [Tb.encT, List.length_cons, Tb.flat_len]; omega
  · simp
theorem yi_info (i : Nat) : (Try.prog.info? 24).map (·.size) = some (yi i).toArray.size := by
  rw [List.size_toArray, yi_len]
  obtain ⟨i0, hi, _, hz1, _⟩ := info_parts Try.infoIds
  rw [hi]
  simp [hz1]
theorem yi_all (i : Nat) : (yi i).toArray.all (·.oneCell') = true := by
  simp only [List.all_toArray, List.all_eq_true]
  exact bys_oneCell _
theorem all_first {e : TypeId} {s B : Nat} {w : World} {r : Rw} {ys : List Value} {v : Value} (h : r.At e s B w) (hv : r.vs = (List.replicate r.n ys).flatten) (hy : ys.length = s) (h0 : ys[0]? = some v) {k : Nat} (hk : k < r.n) : ∃ g, r.o = some ⟨g, 0, none⟩ ∧ w.cell? ⟨g, k * s, none⟩ = some v := by
  obtain ⟨g, h1, h2⟩ := all_cell h hv hy hk
  have h3 := h2 0 v h0
  rw [Nat.add_zero] at h3
  exact ⟨g, h1, h3⟩
theorem all_first1 {e : TypeId} {B : Nat} {w : World} {r : Rw} {v : Value} (h : r.At e 1 B w) (hv : r.vs = (List.replicate r.n [v]).flatten) {k : Nat} (hk : k < r.n) : ∃ g, r.o = some ⟨g, 0, none⟩ ∧ w.cell? ⟨g, k, none⟩ = some v := by
  obtain ⟨g, h1, h2⟩ := all_first h hv rfl rfl hk
  rw [Nat.mul_one] at h2
  exact ⟨g, h1, h2⟩
theorem parse_small (xs : List UInt8) : ((Tb.parse xs).getD []).length ≤ 80 := by
  unfold Tb.parse
  split
  · rename_i h
    simp only [Option.getD_some, List.length_map, List.length_range]; omega
  · simp

set_option maxHeartbeats 64000000 in
set_option maxRecDepth 100000 in
theorem isnew_walk (ao : Option Addr) (n cap : Nat) (ao2 : Option Addr) (n2 cap2 : Nat) (e : Res) (L L2 : List Res) (w : World) (hi : InR w ao n cap L) (hi2 : InR w ao2 n2 cap2 L2) :
    Calls Try.prog 3 #[.slice ao n cap, .slice ao2 n2 cap2, .agg e.cells.toArray] w fun r w' => r = .returned (.bool true) ∧ Below w.heap.size w w' := by
  obtain ⟨W0, hW0⟩ : ∃ W0, w.alloc (.cells e.cells.toArray 26) = W0 := ⟨_, rfl⟩
  have hk0 : Kept [] w W0 := by rw [← hW0]; exact (Kept.refl [] w).alloc _
  have hr0 : W0.heap[w.heap.size]? = some (.cells e.cells.toArray 26 (0, 0)) := by rw [← hW0]; exact heap_new w _
  have hcm := hi.max
  have hle := hi.le
  have hcm2 := hi2.max
  have hle2 := hi2.le
  have hm : n * 72 ≤ 140737488351232 := by omega
  have hm2 : n2 * 72 ≤ 140737488351232 := by omega
  have hnm : n ≤ 4611686018427387904 := by omega
  have hnm2 : n2 ≤ 4611686018427387904 := by omega
  have hn3 : n ≤ n + 3 := by omega
  have hn32 : n2 ≤ n2 + 3 := by omega
  have hx3 : n + 3 ≤ 9223372036854775807 := by omega
  have hx32 : n2 + 3 ≤ 9223372036854775807 := by omega
  have HL2 := hide hi2.ress
  have HN := hide hi.len
  have HN2 := hide hi2.len
  have hroom := roomy_own ao n cap L W0 hi.len (hi.ress.kept hk0 (by simp)) hm
  have ie : (Try.prog.info? 26).map (·.size) = some e.cells.length := by rw [e.len]; exact Try.infoResS
  have TB0 : Hid (Bn w W0 0 (fun _ => rw0) 0 (fun _ => rw0) 0 (fun _ => rw0)) := Bn.start hk0 _ _ _
  have HR0 := hide hr0
  have hal : (Tb.encd L).length ≤ 3000 := encd_small L
  have hal2 : (Tb.encd L).length ≤ 140737488355328 := by omega
  have HPL := hide (parse_small (Tb.encd L))
  clear hi hi2 hcm hle hcm2 hle2 hk0 hr0
  go_enter Try.func3, Try.ntmps3
  go_upto_region 2 with (go_at_call 4; refine hroom.mono ?_; rintro r w1 ⟨ga, rfl, hg, hR, hT, hk, hB⟩; have TB1 := hide (TB0.out.roomy HN.out hm hg hR hk hB); have HE1 : Hid (w1.heap[w.heap.size]? = some (.cells e.cells.toArray 26 (0, 0))) := (by show _ = _; rw [hk.block _ (Array.getElem?_eq_some_iff.1 HR0.out).1 (by simp)]; exact HR0.out); clear hg hR hT hk hB hroom TB0 HR0)
  clear hW0
  have hroom := roomy_own ao2 n2 cap2 L2 w1 HN2.out (HL2.out.kept (Kept.of_below TB1.out.1.bel) (by simp)) hm2
  go_upto_region 3 with (go_at_call 4; refine hroom.mono ?_; rintro r w2 ⟨gb, rfl, hg, hR, hT, hk, hB⟩; have TB2 := hide (TB1.out.1.roomy HN2.out hm2 hg hR hk hB); have AB2 : Hid (Ab w2 ga gb w.heap.size L L2 e) := ⟨TB1.out.2.kept hk (by simp), TB2.out.2, (by rw [hk.block _ (Array.getElem?_eq_some_iff.1 HE1.out).1 (by simp)]; exact HE1.out)⟩; clear hg hR hT hk hB hroom TB1 HE1)
  replace TB2 := hide TB2.out.1
  obtain ⟨a5, ha5⟩ : ∃ a, w.heap.size = a := ⟨_, rfl⟩
  rw [ha5] at AB2 ⊢
  clear ha5 HL2
  have hen := with_ok (some ⟨ga, 0, none⟩) n (n + 3) L e w2 HN.out AB2.out.a (.inr ⟨_, rfl⟩) (by simp) hn3 hx3 hnm
  have rr := res_range AB2.out.e
  go_upto_region 4 with (first
    | refine wpList_load_mid rfl 26 (.tmp 5) rfl a5 0 rfl e.cells _ rr Try.underlying26 rfl ie ?_
    | (go_at_call 5; refine hen.mono ?_; intro r w3 ht; obtain ⟨q3, rfl, T, kk⟩ := TB2.out.told ht (Tb.with_small _ _); have TB3 := hide T; have AB3 := hide (AB2.out.kept kk); clear ht T kk hen TB2 AB2 rr))
  have hen := with_ok (some ⟨ga, 0, none⟩) n (n + 3) L e w3 HN.out AB3.out.a (.inr ⟨_, rfl⟩) (by simp) hn3 hx3 hnm
  have rr := res_range AB3.out.e
  go_upto_region 5 with (first
    | refine wpList_load_mid rfl 26 (.tmp 5) rfl a5 0 rfl e.cells _ rr Try.underlying26 rfl ie ?_
    | (go_at_call 5; refine hen.mono ?_; intro r w4 ht; obtain ⟨q4, rfl, T, kk⟩ := TB3.out.told ht (Tb.with_small _ _); have TB4 := hide T; have AB4 := hide (AB3.out.kept kk); clear ht T kk hen TB3 AB3 rr))
  have hen := join_ok (some ⟨ga, 0, none⟩) (some ⟨gb, 0, none⟩) n (n + 3) n2 (n2 + 3) L L2 1 w4 hnm hnm2 HN.out HN2.out ⟨AB4.out.a, .inr ⟨_, rfl⟩, by simp⟩ ⟨AB4.out.b, .inr ⟨_, rfl⟩, by simp⟩ hn3 hn32 hx3 hx32
  go_upto_region 6 with (go_at_call 6; refine hen.mono ?_; intro r w5 ht; obtain ⟨q5, p5, rfl, T1, T2, kk⟩ := TB4.out.join ht (Tb.join_small _ _ _); have TB5 := hide T1; have AB5 := hide (AB4.out.kept kk); clear ht T1 T2 kk hen TB4 AB4)
  have hen := join_ok (some ⟨ga, 0, none⟩) (some ⟨gb, 0, none⟩) n (n + 3) n2 (n2 + 3) L L2 2 w5 hnm hnm2 HN.out HN2.out ⟨AB5.out.a, .inr ⟨_, rfl⟩, by simp⟩ ⟨AB5.out.b, .inr ⟨_, rfl⟩, by simp⟩ hn3 hn32 hx3 hx32
  go_upto_region 7 with (go_at_call 6; refine hen.mono ?_; intro r w6 ht; obtain ⟨q6, p6, rfl, T1, T2, kk⟩ := TB5.out.join ht (Tb.join_small _ _ _); have TB6 := hide T1; have AB6 := hide (AB5.out.kept kk); clear ht T1 T2 kk hen TB5 AB5)
  have hen := join_ok (some ⟨ga, 0, none⟩) (some ⟨gb, 0, none⟩) n (n + 3) n2 (n2 + 3) L L2 3 w6 hnm hnm2 HN.out HN2.out ⟨AB6.out.a, .inr ⟨_, rfl⟩, by simp⟩ ⟨AB6.out.b, .inr ⟨_, rfl⟩, by simp⟩ hn3 hn32 hx3 hx32
  go_upto_region 8 with (go_at_call 6; refine hen.mono ?_; intro r w7 ht; obtain ⟨q7, p7, rfl, T1, T2, kk⟩ := TB6.out.join ht (Tb.join_small _ _ _); have TB7 := hide T2; have AB7 := hide (AB6.out.kept kk); clear ht T1 T2 kk hen TB6 AB6)
  have hen := join_ok (some ⟨ga, 0, none⟩) (some ⟨gb, 0, none⟩) n (n + 3) n2 (n2 + 3) L L2 3 w7 hnm hnm2 HN.out HN2.out ⟨AB7.out.a, .inr ⟨_, rfl⟩, by simp⟩ ⟨AB7.out.b, .inr ⟨_, rfl⟩, by simp⟩ hn3 hn32 hx3 hx32
  go_upto_region 9 with (go_at_call 6; refine hen.mono ?_; intro r w8 ht; obtain ⟨q8, p8, rfl, T1, T2, kk⟩ := TB7.out.join ht (Tb.join_small _ _ _); have TB8 := hide T2; have AB8 := hide (AB7.out.kept kk); clear ht T1 T2 kk hen TB7 AB7)
  have hen := join_ok (some ⟨ga, 0, none⟩) none n (n + 3) 0 0 L [] 1 w8 hnm (by omega) HN.out rfl ⟨AB8.out.a, .inr ⟨_, rfl⟩, by simp⟩ ⟨Ress.nil _ _, .inl rfl, fun _ => rfl⟩ hn3 (Nat.le_refl _) hx3 (by omega)
  go_upto_region 10 with (go_at_call 6; refine hen.mono ?_; intro r w9 ht; obtain ⟨q9, p9, rfl, T1, T2, kk⟩ := TB8.out.join ht (Tb.join_small _ _ _); have TB9 := hide T1; have AB9 := hide (AB8.out.kept kk); clear ht T1 T2 kk hen TB8 AB8)
  have hen := join_ok none (some ⟨gb, 0, none⟩) 0 0 n2 (n2 + 3) [] L2 1 w9 (by omega) hnm2 rfl HN2.out ⟨Ress.nil _ _, .inl rfl, fun _ => rfl⟩ ⟨AB9.out.b, .inr ⟨_, rfl⟩, by simp⟩ (Nat.le_refl _) hn32 (by omega) hx32
  go_upto_region 11 with (go_at_call 6; refine hen.mono ?_; intro r w10 ht; obtain ⟨q10, p10, rfl, T1, T2, kk⟩ := TB9.out.join ht (Tb.join_small _ _ _); have TB10 := hide T1; have AB10 := hide (AB9.out.kept kk); clear ht T1 T2 kk hen TB9 AB9)
  have hen := encode_ok (some ⟨ga, 0, none⟩) n (n + 3) L w10 HN.out hnm AB10.out.a (.inr ⟨_, rfl⟩)
  go_upto_region 12 with (go_at_call 7; refine hen.mono ?_; intro r w11 ht; obtain ⟨q11, rfl, T, kk, z1, z2, z3⟩ := TB10.out.enc ht hal; have TB11 := hide T; have AB11 := hide (AB10.out.kept kk); have ZS11 := hide (And.intro z1 (And.intro z2 z3)); clear ht T kk z1 z2 z3 hen TB10 AB10)
  have hen := encode_ok (some ⟨ga, 0, none⟩) n (n + 3) L w11 HN.out hnm AB11.out.a (.inr ⟨_, rfl⟩)
  go_upto_region 13 with (go_at_call 7; refine hen.mono ?_; intro r w12 ht; obtain ⟨q12, rfl, T, kk, z1, z2, z3⟩ := TB11.out.enc ht hal; have TB12 := hide T; have AB12 := hide (AB11.out.kept kk); have ZS12 := hide (And.intro ZS11.out.1 (And.intro (ZS11.out.2.1.kept kk (by simp)) ZS11.out.2.2)); clear ht T kk z1 z2 z3 hen TB11 AB11)
  have hz11 : q11.n ≤ 140737488355328 := by rw [← ZS12.out.1]; exact hal2
  have hen := parse_ok q11.o q11.n q11.c (Tb.encd L) w12 ZS12.out.1 hz11 ZS12.out.2.1 ZS12.out.2.2
  go_upto_region 14 with (go_at_call 8; refine hen.mono ?_; intro r w13 ht; obtain ⟨q13, rfl, T, kk⟩ := TB12.out.told ht HPL.out; have TB13 := hide T; have ZS13 := hide (And.intro ZS12.out.1 (And.intro (ZS12.out.2.1.kept kk (by simp)) ZS12.out.2.2)); clear ht T kk hen TB12)
  have hen := parse_ok q11.o q11.n q11.c (Tb.encd L) w13 ZS13.out.1 hz11 ZS13.out.2.1 ZS13.out.2.2
  go_upto_region 15 with (go_at_call 8; refine hen.mono ?_; intro r w14 ht; obtain ⟨q14, rfl, T, kk⟩ := TB13.out.told ht HPL.out; have TB14 := hide T; have ZS14 := hide (And.intro ZS13.out.1 (And.intro (ZS13.out.2.1.kept kk (by simp)) ZS13.out.2.2)); clear ht T kk hen TB13)
  clear AB12 ZS14 hm hm2 hnm hnm2 hn3 hn32 hx3 hx32 hal hal2 hz11 HPL HN HN2 ie
  obtain ⟨V1, hV1⟩ : ∃ V, w14.alloc (.cells #[.slice (some ⟨ga, 0, none⟩) (n + 3) (n + 3), .slice (some ⟨gb, 0, none⟩) (n2 + 3) (n2 + 3), .slice q3.o q3.n q3.c, .slice q4.o q4.n q4.c, .slice q5.o q5.n q5.c, .slice q6.o q6.n q6.c, .slice q9.o q9.n q9.c, .slice q10.o q10.n q10.c, .slice q13.o q13.n q13.c, .slice q14.o q14.n q14.c] 22) = V := ⟨_, rfl⟩
  obtain ⟨V2, hV2⟩ : ∃ V, V1.alloc (.cells #[.slice p5.o p5.n p5.c, .slice p6.o p6.n p6.c, .slice p7.o p7.n p7.c, .slice p9.o p9.n p9.c, .slice p10.o p10.n p10.c, .slice p8.o p8.n p8.c] 32) = V := ⟨_, rfl⟩
  obtain ⟨V3, hV3⟩ : ∃ V, V2.alloc (.cells #[.slice q11.o q11.n q11.c, .slice q12.o q12.n q12.c] 35) = V := ⟨_, rfl⟩
  obtain ⟨hr0, hi0, hb0, vR, vI, vB, T0, sR, sI, sB⟩ := TB14.out.all sgm sgm1 sgm2 hV1 hV2 hV3 rfl rfl rfl
  have TT := hide (And.intro T0 (And.intro sR (And.intro sI sB)))
  clear T0 sR sI sB TB14
  go_upto_region 21 with (fail)
  clear hV1 hV2 hV3
  generalize w14.heap.size = g1 at TT ⊢
  generalize V1.heap.size = g2 at TT ⊢
  generalize V2.heap.size = g3 at TT ⊢
  go_wp2_with (fail)
  go_loopw [47] (fun x wr => ∃ (i : Nat) (hr : Nat → Rw), i ≤ 10 ∧ x = .int .i64 i ∧ Hid (T3 w wr ⟨hr, ⟨some ⟨g1, 0, none⟩, 10, 10, vR⟩, 0, hr0, 0, rw0⟩ ⟨hi0, ⟨some ⟨g2, 0, none⟩, 6, 6, vI⟩, 0, hi0, 0, rw0⟩ ⟨hb0, ⟨some ⟨g3, 0, none⟩, 2, 2, vB⟩, 0, hb0, 0, rw0⟩ ∧ All hr yr i ∧ Sm hr 10 1954687338214)) (fun x wr => 10 - (intOf x).toNat)
  case atStart => exact ⟨0, hr0, by omega, rfl, TT.out.1, fun j hj => absurd hj (by omega), TT.out.2.1⟩
  case round =>
    have HSI := hide TT.out.2.2
    clear TT
    obtain ⟨i, hr, hi, rfl, HI⟩ := hrel
    by_cases hlt : i < 10
    · as_aux_lemma =>
        have ni : (i : Int) < 10 := by omega
        have hw : IntKind.i64.wrap (1000 + (i : Int)) = 1000 + (i : Int) := by rw [IntKind.wrap_i64]; omega
        have hi1 : i < 1000 := by omega
        have m1 : wr.cell? ⟨g1, i, none⟩ = some (.slice (hr i).o (hr i).n (hr i).c) := by
          obtain ⟨g, hg, hc⟩ := rw_cell HI.out.1.r.oR HI.out.1.r.nR HI.out.1.r.vR hlt
          cases hg
          exact hc
        have hsm : (hr i).n ≤ 4611686018427387800 := by have := HI.out.2.2 i hlt; omega
        have hsn : (hr i).n ≤ 1954687338214 := HI.out.2.2 i hlt
        have HAT : Hid (Rw.At 26 65 w.heap.size wr (hr i)) := HI.out.1.r.lx.fam.own i hlt
        have hov := over_own (hr i) w.heap.size (1000 + (i : Int)) (mk_wf hi1) wr HAT.out hsm
        rw [← mkR_eq hi1] at hov
        go_wp2_with (go_at_call 9; refine hov.mono ?_; rintro r w1 ⟨rfl, ha, hg⟩; have HN1 : Hid (T3 w w1 ⟨(upr hr i ⟨(hr i).o, (hr i).c, (hr i).n, (List.replicate (hr i).n (mkR i).cells).flatten⟩), ⟨some ⟨g1, 0, none⟩, 10, 10, vR⟩, 0, hr0, 0, rw0⟩ ⟨hi0, ⟨some ⟨g2, 0, none⟩, 6, 6, vI⟩, 0, hi0, 0, rw0⟩ ⟨hb0, ⟨some ⟨g3, 0, none⟩, 2, 2, vB⟩, 0, hb0, 0, rw0⟩ ∧ All (upr hr i ⟨(hr i).o, (hr i).c, (hr i).n, (List.replicate (hr i).n (mkR i).cells).flatten⟩) yr (i + 1) ∧ Sm (upr hr i ⟨(hr i).o, (hr i).c, (hr i).n, (List.replicate (hr i).n (mkR i).cells).flatten⟩) 10 1954687338214) := ⟨HI.out.1.onR HAT.out hg (.inl rfl) (HI.out.1.r.turn hlt ha hg), HI.out.2.1.next rfl, HI.out.2.2.lay hsn⟩; clear hov ha hg HAT HI)
        go_roundw
        case rel => exact ⟨i + 1, _, by omega, by go_num, HN1.out⟩
        case measure => simp [intOf]; omega
    · as_aux_lemma =>
        have eN : i = 10 := by omega
        replace HI := hide (by have h := HI.out; rw [eN] at h; exact h : T3 w wr ⟨hr, ⟨some ⟨g1, 0, none⟩, 10, 10, vR⟩, 0, hr0, 0, rw0⟩ ⟨hi0, ⟨some ⟨g2, 0, none⟩, 6, 6, vI⟩, 0, hi0, 0, rw0⟩ ⟨hb0, ⟨some ⟨g3, 0, none⟩, 2, 2, vB⟩, 0, hb0, 0, rw0⟩ ∧ All hr yr 10 ∧ Sm hr 10 1954687338214)
        clear eN
        have HAr := hide HI.out.2.1
        have HSr := hide HI.out.2.2
        replace HI := hide HI.out.1
        go_wp2_with (fail)
        go_loopw [48] (fun x wr => ∃ (i : Nat) (hI : Nat → Rw), i ≤ 6 ∧ x = .int .i64 i ∧ Hid (T3 w wr ⟨hr, ⟨some ⟨g1, 0, none⟩, 10, 10, vR⟩, 0, hr0, 0, rw0⟩ ⟨hI, ⟨some ⟨g2, 0, none⟩, 6, 6, vI⟩, 0, hi0, 0, rw0⟩ ⟨hb0, ⟨some ⟨g3, 0, none⟩, 2, 2, vB⟩, 0, hb0, 0, rw0⟩ ∧ All hI yi i ∧ Sm hI 6 64)) (fun x wr => 6 - (intOf x).toNat)
        case atStart => exact ⟨0, hi0, by omega, rfl, HI.out, fun j hj => absurd hj (by omega), HSI.out.1⟩
        case round =>
          have HSB := hide HSI.out.2
          clear HI HSI
          obtain ⟨i, hI, hi, rfl, HI⟩ := hrel
          by_cases hlt : i < 6
          · as_aux_lemma =>
              have ni : (i : Int) < 6 := by omega
              obtain ⟨ys, hys⟩ : ∃ ys, yi i = ys := ⟨_, rfl⟩
              have hyl : ys.length = 32 := by rw [← hys]; exact yi_len i
              have hi200 : i < 200 := by omega
              have hw8 : IntKind.u8.wrap ((i : Int) + 1) = (i : Int) + 1 := by rw [IntKind.wrap_u8]; omega
              obtain ⟨q, hq⟩ : ∃ q, hI i = q := ⟨_, rfl⟩
              have hqn : q.n ≤ 64 := by rw [← hq]; exact HI.out.2.2 i hlt
              have HAT : Hid (Rw.At 24 32 w.heap.size wr (hI i)) := HI.out.1.i.lx.fam.own i hlt
              rw [hq] at HAT
              have hlen := hide HAT.out.len
              obtain ⟨ro, rc, rn, rv⟩ := q
              dsimp only at hqn hlen
              clear HAT
              have HK0 : Hid (T3 w wr ⟨hr, ⟨some ⟨g1, 0, none⟩, 10, 10, vR⟩, 0, hr0, 0, rw0⟩ ⟨(upr hI i ⟨ro, rc, rn, ov rv ys 32 0⟩), ⟨some ⟨g2, 0, none⟩, 6, 6, vI⟩, 0, hi0, 0, rw0⟩ ⟨hb0, ⟨some ⟨g3, 0, none⟩, 2, 2, vB⟩, 0, hb0, 0, rw0⟩) := by
                have h := HI.out.1
                rw [ov_zero, upr_self hq]
                exact h
              have HAI := hide HI.out.2
              clear HI
              go_wp2_with (fail)
              go_loopw [49] (fun x wr => ∃ k : Nat, k ≤ rn ∧ x = .int .i64 k ∧ Hid (T3 w wr ⟨hr, ⟨some ⟨g1, 0, none⟩, 10, 10, vR⟩, 0, hr0, 0, rw0⟩ ⟨(upr hI i ⟨ro, rc, rn, ov rv ys 32 k⟩), ⟨some ⟨g2, 0, none⟩, 6, 6, vI⟩, 0, hi0, 0, rw0⟩ ⟨hb0, ⟨some ⟨g3, 0, none⟩, 2, 2, vB⟩, 0, hb0, 0, rw0⟩)) (fun x wr => rn - (intOf x).toNat)
              case atStart => exact ⟨0, Nat.zero_le _, rfl, HK0.out⟩
              case round =>
                clear HK0
                obtain ⟨k, hk, rfl, HJ⟩ := hrel
                have m1 : wr.cell? ⟨g2, i, none⟩ = some (.slice ro rn rc) := by
                  obtain ⟨g, hg, hc⟩ := rw_cell HJ.out.i.oR HJ.out.i.nR HJ.out.i.vR hlt
                  cases hg
                  have hc2 : wr.cell? ⟨g2, i, none⟩ = some (upr hI i ⟨ro, rc, rn, ov rv ys 32 k⟩ i).val := hc
                  rw [upr_same] at hc2
                  exact hc2
                by_cases hkn : k < rn
                · have hknz : (k : Int) < (rn : Int) := by omega
                  have HAT : Hid (Rw.At 24 32 w.heap.size wr ⟨ro, rc, rn, ov rv ys 32 k⟩) := by
                    have h : Rw.At 24 32 w.heap.size wr (upr hI i ⟨ro, rc, rn, ov rv ys 32 k⟩ i) := HJ.out.i.lx.fam.own i hlt
                    rw [upr_same] at h
                    exact h
                  obtain ⟨g, ho, hbk, hth, _⟩ := HAT.out.there (show 0 < rn by omega)
                  dsimp only at ho hth
                  subst ho
                  have tt : wr.there g (k * 32) ys.toArray.size := by
                    rw [List.size_toArray, hyl]
                    exact there_sub hth (Nat.zero_le _) (mul_next hkn)
                  have ia : (Try.prog.info? 24).map (·.size) = some ys.toArray.size := by rw [← hys]; exact yi_info i
                  have hall : ys.toArray.all (·.oneCell') = true := by rw [← hys]; exact yi_all i
                  have hbw : (Instr.build 24 #[(0, .int .u8 ((i : Int) + 1))]).run Try.prog wr = .ok (.agg ys.toArray) wr := by rw [← hys]; exact build_yi hi200 wr
                  have HN1 : Hid (T3 w (wr.setCells g (k * 32) ys) ⟨hr, ⟨some ⟨g1, 0, none⟩, 10, 10, vR⟩, 0, hr0, 0, rw0⟩ ⟨(upr hI i ⟨some ⟨g, 0, none⟩, rc, rn, ov rv ys 32 (k + 1)⟩), ⟨some ⟨g2, 0, none⟩, 6, 6, vI⟩, 0, hi0, 0, rw0⟩ ⟨hb0, ⟨some ⟨g3, 0, none⟩, 2, 2, vB⟩, 0, hb0, 0, rw0⟩) := by
                    obtain ⟨a1, a2⟩ := Rw.At.sets (g := g) ys (k * 32) wr _ HAT.out rfl
                    rw [ov_next (ys := ys) (s := 32) hyl hlen.out hkn] at a1
                    exact HJ.out.onI HAT.out a2 (.inl rfl) (HJ.out.i.set hlt a1 a2)
                  clear HJ HAT hth hbk
                  go_wp2_with (first
                    | refine wpList_buildRun rfl 24 #[(0, .tmp 202)] rfl #[(0, .int .u8 ((i : Int) + 1))] (by simp [Act.eval]) (.agg ys.toArray) hbw ?_
                    | refine wpList_store_mid rfl 24 (.tmp 204) (.tmp 203) rfl g (k * 32) ys.toArray rfl rfl tt ia hall ?_)
                  go_roundw
                  case rel => exact ⟨k + 1, by omega, by go_num, HN1.out⟩
                  case measure => simp [intOf]; omega
                · have hknz : ¬ (k : Int) < (rn : Int) := by omega
                  have HN1 : Hid (T3 w wr ⟨hr, ⟨some ⟨g1, 0, none⟩, 10, 10, vR⟩, 0, hr0, 0, rw0⟩ ⟨(upr hI i ⟨ro, rc, rn, ov rv ys 32 rn⟩), ⟨some ⟨g2, 0, none⟩, 6, 6, vI⟩, 0, hi0, 0, rw0⟩ ⟨hb0, ⟨some ⟨g3, 0, none⟩, 2, 2, vB⟩, 0, hb0, 0, rw0⟩ ∧ All (upr hI i ⟨ro, rc, rn, ov rv ys 32 rn⟩) yi (i + 1) ∧ Sm (upr hI i ⟨ro, rc, rn, ov rv ys 32 rn⟩) 6 64) := by
                    have h := HJ.out
                    rw [show k = rn by omega] at h
                    exact ⟨h, HAI.out.1.next (by rw [hys]; exact ov_full hlen.out), HAI.out.2.lay hqn⟩
                  clear HJ
                  go_wp2
                  go_roundw
                  case rel => exact ⟨i + 1, _, by omega, by go_num, HN1.out⟩
                  case measure => simp [intOf]; omega
          · as_aux_lemma =>
              have eN : i = 6 := by omega
              replace HI := hide (by have h := HI.out; rw [eN] at h; exact h : T3 w wr ⟨hr, ⟨some ⟨g1, 0, none⟩, 10, 10, vR⟩, 0, hr0, 0, rw0⟩ ⟨hI, ⟨some ⟨g2, 0, none⟩, 6, 6, vI⟩, 0, hi0, 0, rw0⟩ ⟨hb0, ⟨some ⟨g3, 0, none⟩, 2, 2, vB⟩, 0, hb0, 0, rw0⟩ ∧ All hI yi 6 ∧ Sm hI 6 64)
              clear eN
              have HAi := hide HI.out.2.1
              have HSi := hide HI.out.2.2
              replace HI := hide HI.out.1
              go_wp2_with (fail)
              go_loopw [50] (fun x wr => ∃ (i : Nat) (hB : Nat → Rw), i ≤ 2 ∧ x = .int .i64 i ∧ Hid (T3 w wr ⟨hr, ⟨some ⟨g1, 0, none⟩, 10, 10, vR⟩, 0, hr0, 0, rw0⟩ ⟨hI, ⟨some ⟨g2, 0, none⟩, 6, 6, vI⟩, 0, hi0, 0, rw0⟩ ⟨hB, ⟨some ⟨g3, 0, none⟩, 2, 2, vB⟩, 0, hb0, 0, rw0⟩ ∧ All hB yb i ∧ Sm hB 2 3000)) (fun x wr => 2 - (intOf x).toNat)
              case atStart => exact ⟨0, hb0, by omega, rfl, HI.out, fun j hj => absurd hj (by omega), HSB.out⟩
              case round =>
                clear HI HSB
                obtain ⟨i, hB, hi, rfl, HI⟩ := hrel
                by_cases hlt : i < 2
                · as_aux_lemma =>
                    have ni : (i : Int) < 2 := by omega
                    have hw8 : IntKind.u8.wrap (100 + (i : Int)) = 100 + (i : Int) := by rw [IntKind.wrap_u8]; omega
                    obtain ⟨q, hq⟩ : ∃ q, hB i = q := ⟨_, rfl⟩
                    have hqn : q.n ≤ 3000 := by rw [← hq]; exact HI.out.2.2 i hlt
                    have HAT : Hid (Rw.At 5 1 w.heap.size wr (hB i)) := HI.out.1.b.lx.fam.own i hlt
                    rw [hq] at HAT
                    have hlen := hide HAT.out.len
                    obtain ⟨ro, rc, rn, rv⟩ := q
                    dsimp only at hqn hlen
                    clear HAT
                    have HK0 : Hid (T3 w wr ⟨hr, ⟨some ⟨g1, 0, none⟩, 10, 10, vR⟩, 0, hr0, 0, rw0⟩ ⟨hI, ⟨some ⟨g2, 0, none⟩, 6, 6, vI⟩, 0, hi0, 0, rw0⟩ ⟨(upr hB i ⟨ro, rc, rn, ov rv (yb i) 1 0⟩), ⟨some ⟨g3, 0, none⟩, 2, 2, vB⟩, 0, hb0, 0, rw0⟩) := by
                      have h := HI.out.1
                      rw [ov_zero, upr_self hq]
                      exact h
                    have HAB := hide HI.out.2
                    clear HI
                    go_wp2_with (fail)
                    go_loopw [51] (fun x wr => ∃ k : Nat, k ≤ rn ∧ x = .int .i64 k ∧ Hid (T3 w wr ⟨hr, ⟨some ⟨g1, 0, none⟩, 10, 10, vR⟩, 0, hr0, 0, rw0⟩ ⟨hI, ⟨some ⟨g2, 0, none⟩, 6, 6, vI⟩, 0, hi0, 0, rw0⟩ ⟨(upr hB i ⟨ro, rc, rn, ov rv (yb i) 1 k⟩), ⟨some ⟨g3, 0, none⟩, 2, 2, vB⟩, 0, hb0, 0, rw0⟩)) (fun x wr => rn - (intOf x).toNat)
                    case atStart => exact ⟨0, Nat.zero_le _, rfl, HK0.out⟩
                    case round =>
                      clear HK0
                      obtain ⟨k, hk, rfl, HJ⟩ := hrel
                      have m1 : wr.cell? ⟨g3, i, none⟩ = some (.slice ro rn rc) := by
                        obtain ⟨g, hg, hc⟩ := rw_cell HJ.out.b.oR HJ.out.b.nR HJ.out.b.vR hlt
                        cases hg
                        have hc2 : wr.cell? ⟨g3, i, none⟩ = some (upr hB i ⟨ro, rc, rn, ov rv (yb i) 1 k⟩ i).val := hc
                        rw [upr_same] at hc2
                        exact hc2
                      by_cases hkn : k < rn
                      · have hknz : (k : Int) < (rn : Int) := by omega
                        have HAT : Hid (Rw.At 5 1 w.heap.size wr ⟨ro, rc, rn, ov rv (yb i) 1 k⟩) := by
                          have h : Rw.At 5 1 w.heap.size wr (upr hB i ⟨ro, rc, rn, ov rv (yb i) 1 k⟩ i) := HJ.out.b.lx.fam.own i hlt
                          rw [upr_same] at h
                          exact h
                        obtain ⟨g, ho, hbk, hth, _⟩ := HAT.out.there (show 0 < rn by omega)
                        dsimp only at ho hth
                        subst ho
                        have hc1 := hth k (by omega)
                        rw [Nat.zero_add] at hc1
                        obtain ⟨cu, hc0⟩ := Option.isSome_iff_exists.1 hc1.1
                        have hf0 := hc1.2
                        have HN1 : Hid (T3 w (wr.setCell ⟨g, k, none⟩ (.int .u8 (100 + (i : Int)))) ⟨hr, ⟨some ⟨g1, 0, none⟩, 10, 10, vR⟩, 0, hr0, 0, rw0⟩ ⟨hI, ⟨some ⟨g2, 0, none⟩, 6, 6, vI⟩, 0, hi0, 0, rw0⟩ ⟨(upr hB i ⟨some ⟨g, 0, none⟩, rc, rn, ov rv (yb i) 1 (k + 1)⟩), ⟨some ⟨g3, 0, none⟩, 2, 2, vB⟩, 0, hb0, 0, rw0⟩) := by
                          obtain ⟨a1, a2⟩ := Rw.At.sets (g := g) (yb i) (k * 1) wr _ HAT.out rfl
                          rw [ov_next (ys := yb i) (s := 1) rfl hlen.out hkn] at a1
                          rw [Nat.mul_one] at a1 a2
                          exact HJ.out.onB HAT.out a2 (.inl rfl) (HJ.out.b.set hlt a1 a2)
                        clear HJ HAT hth hbk hc1
                        go_wp2
                        go_roundw
                        case rel => exact ⟨k + 1, by omega, by go_num, HN1.out⟩
                        case measure => simp [intOf]; omega
                      · have hknz : ¬ (k : Int) < (rn : Int) := by omega
                        have HN1 : Hid (T3 w wr ⟨hr, ⟨some ⟨g1, 0, none⟩, 10, 10, vR⟩, 0, hr0, 0, rw0⟩ ⟨hI, ⟨some ⟨g2, 0, none⟩, 6, 6, vI⟩, 0, hi0, 0, rw0⟩ ⟨(upr hB i ⟨ro, rc, rn, ov rv (yb i) 1 rn⟩), ⟨some ⟨g3, 0, none⟩, 2, 2, vB⟩, 0, hb0, 0, rw0⟩ ∧ All (upr hB i ⟨ro, rc, rn, ov rv (yb i) 1 rn⟩) yb (i + 1) ∧ Sm (upr hB i ⟨ro, rc, rn, ov rv (yb i) 1 rn⟩) 2 3000) := by
                          have h := HJ.out
                          rw [show k = rn by omega] at h
                          exact ⟨h, HAB.out.1.next (ov_full hlen.out), HAB.out.2.lay hqn⟩
                        clear HJ
                        go_wp2
                        go_roundw
                        case rel => exact ⟨i + 1, _, by omega, by go_num, HN1.out⟩
                        case measure => simp [intOf]; omega
                · as_aux_lemma =>
                    have eN : i = 2 := by omega
                    replace HI := hide (by have h := HI.out; rw [eN] at h; exact h : T3 w wr ⟨hr, ⟨some ⟨g1, 0, none⟩, 10, 10, vR⟩, 0, hr0, 0, rw0⟩ ⟨hI, ⟨some ⟨g2, 0, none⟩, 6, 6, vI⟩, 0, hi0, 0, rw0⟩ ⟨hB, ⟨some ⟨g3, 0, none⟩, 2, 2, vB⟩, 0, hb0, 0, rw0⟩ ∧ All hB yb 2 ∧ Sm hB 2 3000)
                    clear eN
                    have HAb := hide HI.out.2.1
                    have HSb := hide HI.out.2.2
                    replace HI := hide HI.out.1
                    go_wp2_with (fail)
                    go_loopw [44, 52] (fun x y wr => ∃ (i : Nat) (lf : Nat → Rw) (rG : Rw), i ≤ 10 ∧ y = .int .i64 i ∧ x = .slice rG.o rG.n rG.c ∧ Hid (T3 w wr ⟨hr, ⟨some ⟨g1, 0, none⟩, 10, 10, vR⟩, i, lf, i, rG⟩ ⟨hI, ⟨some ⟨g2, 0, none⟩, 6, 6, vI⟩, 0, hi0, 0, rw0⟩ ⟨hB, ⟨some ⟨g3, 0, none⟩, 2, 2, vB⟩, 0, hb0, 0, rw0⟩ ∧ Cd hr lf 9 yr i)) (fun x y wr => 10 - (intOf y).toNat)
                    case atStart => exact ⟨0, hr0, rw0, by omega, rfl, rfl, HI.out, Cd.start _ _ _ _⟩
                    case round =>
                      clear HI
                      obtain ⟨i, lf, rG, hi, rfl, rfl, HI⟩ := hrel
                      by_cases hlt : i < 10
                      · as_aux_lemma =>
                          have ni : (i : Int) < 10 := by omega
                          have hw : IntKind.i64.wrap (1000 + (i : Int)) = 1000 + (i : Int) := by rw [IntKind.wrap_i64]; omega
                          have hi1 : i < 1000 := by omega
                          have hi6 : i < 1000000 := by omega
                          have m1 : wr.cell? ⟨g1, i, none⟩ = some (.slice (hr i).o (hr i).n (hr i).c) := by
                            obtain ⟨g, hg, hc⟩ := rw_cell HI.out.1.r.oR HI.out.1.r.nR HI.out.1.r.vR hlt
                            cases hg
                            exact hc
                          have hsn : (hr i).n + 9 ≤ 1954687338223 := by have := HSr.out i hlt; omega
                          have hsm : ((hr i).n + 9) * 72 ≤ 140737488355328 := Nat.le_trans (Nat.mul_le_mul_right 72 hsn) (by decide)
                          have HAT : Hid (Rw.At 26 65 w.heap.size wr (hr i)) := HI.out.1.r.lx.fam.own i hlt
                          have hov := further_ok (hr i) w.heap.size (1000 + (i : Int)) (mk_wf hi1) wr HAT.out hsm HI.out.1.bel.size
                          rw [← mkR_eq hi1] at hov
                          clear hsn hsm
                          go_wp2_with (first
                            | (go_at_call 10; refine hov.mono ?_; rintro r w1 ⟨r', rfl, hG⟩; have T1 : T3 w w1 ⟨hr, ⟨some ⟨g1, 0, none⟩, 10, 10, vR⟩, i + 1, upr lf i r', i, rG⟩ ⟨hI, ⟨some ⟨g2, 0, none⟩, 6, 6, vI⟩, 0, hi0, 0, rw0⟩ ⟨hB, ⟨some ⟨g3, 0, none⟩, 2, 2, vB⟩, 0, hb0, 0, rw0⟩ := HI.out.1.onR HAT.out hG.grown (.inl rfl) (HI.out.1.r.grew hlt hG).1; have GX : Gx 26 22 65 w.heap.size w1 10 hr ⟨some ⟨g1, 0, none⟩, 10, 10, vR⟩ (i + 1) (upr lf i r') i rG := T1.r; obtain ⟨r2, w2, hrun, G2, h3, h4⟩ := GX.push 39 Try.underlying39 Try.infoLR hi6 T1.bel.size; rw [upr_same] at hrun; unfold Rw.val at hrun; have HN1 : Hid (T3 w w2 ⟨hr, ⟨some ⟨g1, 0, none⟩, 10, 10, vR⟩, (i + 1), (upr lf i r'), (i + 1), r2⟩ ⟨hI, ⟨some ⟨g2, 0, none⟩, 6, 6, vI⟩, 0, hi0, 0, rw0⟩ ⟨hB, ⟨some ⟨g3, 0, none⟩, 2, 2, vB⟩, 0, hb0, 0, rw0⟩ ∧ Cd hr (upr lf i r') 9 yr (i + 1)) := ⟨T1.onR h3 h4 (.inr rfl) G2, HI.out.2.grew hG⟩; clear hov hG T1 GX G2 h3 h4 HAT HI)
                            | refine wpList_app_run rfl (.tmp 235) (.tmp 243) 39 39 rfl (.slice rG.o rG.n rG.c) (.slice (some ⟨w1.heap.size, 0, none⟩) 1 1) rfl rfl (.slice r2.o r2.n r2.c) w2 hrun ?_)
                          go_roundw
                          case rel => exact ⟨i + 1, upr lf i r', r2, by omega, by go_num, rfl, HN1.out⟩
                          case measure => simp [intOf]; omega
                      · as_aux_lemma =>
                          have eN : i = 10 := by omega
                          replace HI := hide (by have h := HI.out; rw [eN] at h; exact h : T3 w wr ⟨hr, ⟨some ⟨g1, 0, none⟩, 10, 10, vR⟩, 10, lf, 10, rG⟩ ⟨hI, ⟨some ⟨g2, 0, none⟩, 6, 6, vI⟩, 0, hi0, 0, rw0⟩ ⟨hB, ⟨some ⟨g3, 0, none⟩, 2, 2, vB⟩, 0, hb0, 0, rw0⟩ ∧ Cd hr lf 9 yr 10)
                          clear eN
                          have HDr := hide HI.out.2
                          replace HI := hide HI.out.1
                          go_wp2_with (fail)
                          go_loopw [45, 53] (fun x y wr => ∃ (i : Nat) (li : Nat → Rw) (rH : Rw), i ≤ 6 ∧ y = .int .i64 i ∧ x = .slice rH.o rH.n rH.c ∧ Hid (T3 w wr ⟨hr, ⟨some ⟨g1, 0, none⟩, 10, 10, vR⟩, 10, lf, 10, rG⟩ ⟨hI, ⟨some ⟨g2, 0, none⟩, 6, 6, vI⟩, i, li, i, rH⟩ ⟨hB, ⟨some ⟨g3, 0, none⟩, 2, 2, vB⟩, 0, hb0, 0, rw0⟩ ∧ Cd hI li 9 yi i)) (fun x y wr => 6 - (intOf y).toNat)
                          case atStart => exact ⟨0, hi0, rw0, by omega, rfl, rfl, HI.out, Cd.start _ _ _ _⟩
                          case round =>
                            clear HI
                            obtain ⟨i, li, rH, hi, rfl, rfl, HI⟩ := hrel
                            by_cases hlt : i < 6
                            · as_aux_lemma =>
                                have ni : (i : Int) < 6 := by omega
                                have hi200 : i < 200 := by omega
                                have hi6 : i < 1000000 := by omega
                                have hw8 : IntKind.u8.wrap ((i : Int) + 1) = (i : Int) + 1 := by rw [IntKind.wrap_u8]; omega
                                have m1 : wr.cell? ⟨g2, i, none⟩ = some (.slice (hI i).o (hI i).n (hI i).c) := by
                                  obtain ⟨g, hg, hc⟩ := rw_cell HI.out.1.i.oR HI.out.1.i.nR HI.out.1.i.vR hlt
                                  cases hg
                                  exact hc
                                have hsn : (hI i).n ≤ 64 := HSi.out i hlt
                                have HAT : Hid (Rw.At 24 32 w.heap.size wr (hI i)) := HI.out.1.i.lx.fam.own i hlt
                                have HG0 := hide (Grew.start HAT.out (yi i))
                                generalize wr = w0 at *
                                go_wp2_with (fail)
                                go_loopw [54, 55] (fun x y wr => ∃ (k : Nat) (r' : Rw), k ≤ 9 ∧ y = .int .i64 k ∧ x = .slice r'.o r'.n r'.c ∧ Hid (Grew 24 32 w.heap.size w0 wr (hI i) r' k (yi i))) (fun x y wr => 9 - (intOf y).toNat)
                                case atStart => exact ⟨0, hI i, by omega, rfl, rfl, HG0.out⟩
                                case round =>
                                  clear HG0 m1
                                  obtain ⟨k, r', hk, rfl, rfl, HJ⟩ := hrel
                                  by_cases hk9 : k < 9
                                  · have hl1 : ((hI i).n + k + 1) * 32 ≤ 140737488355328 := Nat.le_trans (Nat.mul_le_mul_right 32 (show (hI i).n + k + 1 ≤ 100 by omega)) (by decide)
                                    have hl2 : (hI i).n + k + 1 ≤ 140737488355328 := by omega
                                    obtain ⟨r2, w2, hrun, G2⟩ := HJ.out.app 32 (.agg zeroI) 32 Try.underlying32 Try.infoIds (by rfl) (by decide) HAT.out (yi_len i) (bys_oneCell _) hl1 hl2 HI.out.1.bel.size
                                    have HN1 := hide G2
                                    unfold Rw.val at hrun
                                    have hbw := build_yi hi200 wr
                                    clear HJ G2 hl1 hl2
                                    go_wp2_with (first
                                      | refine wpList_buildRun rfl 24 #[(0, .tmp 262)] rfl #[(0, .int .u8 ((i : Int) + 1))] (by simp [Act.eval]) (.agg (yi i).toArray) hbw ?_
                                      | refine wpList_buildId rfl (.tmp 263) rfl (idv i) (idv_len i) rfl ?_
                                      | refine wpList_app_run rfl (.tmp 259) (.tmp 264) 32 32 rfl (.slice r'.o r'.n r'.c) (.slice (some ⟨wr.heap.size, 0, none⟩) 1 1) rfl rfl (.slice r2.o r2.n r2.c) w2 hrun ?_)
                                    go_roundw
                                    case rel => exact ⟨k + 1, r2, by omega, by go_num, rfl, HN1.out⟩
                                    case measure => simp [intOf]; omega
                                  · replace HJ := hide (by have h := HJ.out; rw [show k = 9 by omega] at h; exact h : Grew 24 32 w.heap.size w0 wr (hI i) r' 9 (yi i))
                                    have T1 : T3 w wr ⟨hr, ⟨some ⟨g1, 0, none⟩, 10, 10, vR⟩, 10, lf, 10, rG⟩ ⟨hI, ⟨some ⟨g2, 0, none⟩, 6, 6, vI⟩, i + 1, upr li i r', i, rH⟩ ⟨hB, ⟨some ⟨g3, 0, none⟩, 2, 2, vB⟩, 0, hb0, 0, rw0⟩ := HI.out.1.onI HAT.out HJ.out.grown (.inl rfl) (HI.out.1.i.grew hlt HJ.out).1
                                    have GX : Gx 24 32 32 w.heap.size wr 6 hI ⟨some ⟨g2, 0, none⟩, 6, 6, vI⟩ (i + 1) (upr li i r') i rH := T1.i
                                    obtain ⟨r2, w2, hrun, G2, h3, h4⟩ := GX.push 40 Try.underlying40 Try.infoLI hi6 T1.bel.size
                                    rw [upr_same] at hrun
                                    unfold Rw.val at hrun
                                    have HN1 : Hid (T3 w w2 ⟨hr, ⟨some ⟨g1, 0, none⟩, 10, 10, vR⟩, 10, lf, 10, rG⟩ ⟨hI, ⟨some ⟨g2, 0, none⟩, 6, 6, vI⟩, (i + 1), (upr li i r'), (i + 1), r2⟩ ⟨hB, ⟨some ⟨g3, 0, none⟩, 2, 2, vB⟩, 0, hb0, 0, rw0⟩ ∧ Cd hI (upr li i r') 9 yi (i + 1)) := ⟨T1.onI h3 h4 (.inr rfl) G2, HI.out.2.grew HJ.out⟩
                                    clear HJ T1 GX G2 h3 h4 HAT HI
                                    go_wp2_with (refine wpList_app_run rfl (.tmp 266) (.tmp 268) 40 40 rfl (.slice rH.o rH.n rH.c) (.slice (some ⟨wr.heap.size, 0, none⟩) 1 1) rfl rfl (.slice r2.o r2.n r2.c) w2 hrun ?_)
                                    go_roundw
                                    case rel => exact ⟨i + 1, upr li i r', r2, by omega, by go_num, rfl, HN1.out⟩
                                    case measure => simp [intOf]; omega
                            · as_aux_lemma =>
                                have eN : i = 6 := by omega
                                replace HI := hide (by have h := HI.out; rw [eN] at h; exact h : T3 w wr ⟨hr, ⟨some ⟨g1, 0, none⟩, 10, 10, vR⟩, 10, lf, 10, rG⟩ ⟨hI, ⟨some ⟨g2, 0, none⟩, 6, 6, vI⟩, 6, li, 6, rH⟩ ⟨hB, ⟨some ⟨g3, 0, none⟩, 2, 2, vB⟩, 0, hb0, 0, rw0⟩ ∧ Cd hI li 9 yi 6)
                                clear eN
                                have HDi := hide HI.out.2
                                replace HI := hide HI.out.1
                                go_wp2_with (fail)
                                go_loopw [46, 56] (fun x y wr => ∃ (i : Nat) (lb : Nat → Rw) (rK : Rw), i ≤ 2 ∧ y = .int .i64 i ∧ x = .slice rK.o rK.n rK.c ∧ Hid (T3 w wr ⟨hr, ⟨some ⟨g1, 0, none⟩, 10, 10, vR⟩, 10, lf, 10, rG⟩ ⟨hI, ⟨some ⟨g2, 0, none⟩, 6, 6, vI⟩, 6, li, 6, rH⟩ ⟨hB, ⟨some ⟨g3, 0, none⟩, 2, 2, vB⟩, i, lb, i, rK⟩ ∧ Cd hB lb 70 yb i)) (fun x y wr => 2 - (intOf y).toNat)
                                case atStart => exact ⟨0, hb0, rw0, by omega, rfl, rfl, HI.out, Cd.start _ _ _ _⟩
                                case round =>
                                  clear HI
                                  obtain ⟨i, lb, rK, hi, rfl, rfl, HI⟩ := hrel
                                  by_cases hlt : i < 2
                                  · as_aux_lemma =>
                                      have ni : (i : Int) < 2 := by omega
                                      have hi6 : i < 1000000 := by omega
                                      have hw8 : IntKind.u8.wrap (100 + (i : Int)) = 100 + (i : Int) := by rw [IntKind.wrap_u8]; omega
                                      have m1 : wr.cell? ⟨g3, i, none⟩ = some (.slice (hB i).o (hB i).n (hB i).c) := by
                                        obtain ⟨g, hg, hc⟩ := rw_cell HI.out.1.b.oR HI.out.1.b.nR HI.out.1.b.vR hlt
                                        cases hg
                                        exact hc
                                      have hsn : (hB i).n ≤ 3000 := HSb.out i hlt
                                      have HAT : Hid (Rw.At 5 1 w.heap.size wr (hB i)) := HI.out.1.b.lx.fam.own i hlt
                                      have HG0 := hide (Grew.start HAT.out (yb i))
                                      generalize wr = w0 at *
                                      go_wp2_with (fail)
                                      go_loopw [57, 58] (fun x y wr => ∃ (k : Nat) (r' : Rw), k ≤ 70 ∧ y = .int .i64 k ∧ x = .slice r'.o r'.n r'.c ∧ Hid (Grew 5 1 w.heap.size w0 wr (hB i) r' k (yb i))) (fun x y wr => 70 - (intOf y).toNat)
                                      case atStart => exact ⟨0, hB i, by omega, rfl, rfl, HG0.out⟩
                                      case round =>
                                        clear HG0 m1
                                        obtain ⟨k, r', hk, rfl, rfl, HJ⟩ := hrel
                                        by_cases hk9 : k < 70
                                        · have hl1 : ((hB i).n + k + 1) * 1 ≤ 140737488355328 := by rw [Nat.mul_one]; omega
                                          have hl2 : (hB i).n + k + 1 ≤ 140737488355328 := by omega
                                          obtain ⟨r2, w2, hrun, G2⟩ := HJ.out.app 35 (.int .u8 0) 1 Try.underlying35 Try.infoB9 rfl (by decide) HAT.out rfl (by simp [yb, Value.oneCell']) hl1 hl2 HI.out.1.bel.size
                                          have HN1 := hide G2
                                          unfold Rw.val yb at hrun
                                          clear HJ G2 hl1 hl2
                                          go_wp2_with (refine wpList_app_run rfl (.tmp 284) (.tmp 288) 35 35 rfl (.slice r'.o r'.n r'.c) (.slice (some ⟨wr.heap.size, 0, none⟩) 1 1) rfl rfl (.slice r2.o r2.n r2.c) w2 hrun ?_)
                                          go_roundw
                                          case rel => exact ⟨k + 1, r2, by omega, by go_num, rfl, HN1.out⟩
                                          case measure => simp [intOf]; omega
                                        · replace HJ := hide (by have h := HJ.out; rw [show k = 70 by omega] at h; exact h : Grew 5 1 w.heap.size w0 wr (hB i) r' 70 (yb i))
                                          have T1 : T3 w wr ⟨hr, ⟨some ⟨g1, 0, none⟩, 10, 10, vR⟩, 10, lf, 10, rG⟩ ⟨hI, ⟨some ⟨g2, 0, none⟩, 6, 6, vI⟩, 6, li, 6, rH⟩ ⟨hB, ⟨some ⟨g3, 0, none⟩, 2, 2, vB⟩, i + 1, upr lb i r', i, rK⟩ := HI.out.1.onB HAT.out HJ.out.grown (.inl rfl) (HI.out.1.b.grew hlt HJ.out).1
                                          have GX : Gx 5 35 1 w.heap.size wr 2 hB ⟨some ⟨g3, 0, none⟩, 2, 2, vB⟩ (i + 1) (upr lb i r') i rK := T1.b
                                          obtain ⟨r2, w2, hrun, G2, h3, h4⟩ := GX.push 41 Try.underlying41 Try.infoLB hi6 T1.bel.size
                                          rw [upr_same] at hrun
                                          unfold Rw.val at hrun
                                          have HN1 : Hid (T3 w w2 ⟨hr, ⟨some ⟨g1, 0, none⟩, 10, 10, vR⟩, 10, lf, 10, rG⟩ ⟨hI, ⟨some ⟨g2, 0, none⟩, 6, 6, vI⟩, 6, li, 6, rH⟩ ⟨hB, ⟨some ⟨g3, 0, none⟩, 2, 2, vB⟩, (i + 1), (upr lb i r'), (i + 1), r2⟩ ∧ Cd hB (upr lb i r') 70 yb (i + 1)) := ⟨T1.onB h3 h4 (.inr rfl) G2, HI.out.2.grew HJ.out⟩
                                          clear HJ T1 GX G2 h3 h4 HAT HI
                                          go_wp2_with (refine wpList_app_run rfl (.tmp 290) (.tmp 292) 41 41 rfl (.slice rK.o rK.n rK.c) (.slice (some ⟨wr.heap.size, 0, none⟩) 1 1) rfl rfl (.slice r2.o r2.n r2.c) w2 hrun ?_)
                                          go_roundw
                                          case rel => exact ⟨i + 1, upr lb i r', r2, by omega, by go_num, rfl, HN1.out⟩
                                          case measure => simp [intOf]; omega
                                  · as_aux_lemma =>
                                      have eN : i = 2 := by omega
                                      replace HI := hide (by have h := HI.out; rw [eN] at h; exact h : T3 w wr ⟨hr, ⟨some ⟨g1, 0, none⟩, 10, 10, vR⟩, 10, lf, 10, rG⟩ ⟨hI, ⟨some ⟨g2, 0, none⟩, 6, 6, vI⟩, 6, li, 6, rH⟩ ⟨hB, ⟨some ⟨g3, 0, none⟩, 2, 2, vB⟩, 2, lb, 2, rK⟩ ∧ Cd hB lb 70 yb 2)
                                      clear eN
                                      have HDb := hide HI.out.2
                                      replace HI := hide HI.out.1
                                      obtain ⟨g4, hg4, _⟩ := rw_cell HI.out.r.oG HI.out.r.nG HI.out.r.vG (i := 0) (show 0 < 10 by omega)
                                      have hng4 : rG.n = 10 := HI.out.r.nG
                                      obtain ⟨g5, hg5, _⟩ := rw_cell HI.out.i.oG HI.out.i.nG HI.out.i.vG (i := 0) (show 0 < 6 by omega)
                                      have hng5 : rH.n = 6 := HI.out.i.nG
                                      obtain ⟨g6, hg6, _⟩ := rw_cell HI.out.b.oG HI.out.b.nG HI.out.b.vG (i := 0) (show 0 < 2 by omega)
                                      have hng6 : rK.n = 2 := HI.out.b.nG
                                      rw [hg4, hng4, hg5, hng5, hg6, hng6]
                                      generalize rG.c = c4
                                      generalize rH.c = c5
                                      generalize rK.c = c6
                                      go_wp2_with (fail)
                                      go_loopw [59] (fun x wr => ∃ i : Nat, i ≤ 10 ∧ x = .int .i64 i ∧ Hid (T3 w wr ⟨hr, ⟨some ⟨g1, 0, none⟩, 10, 10, vR⟩, 10, lf, 10, rG⟩ ⟨hI, ⟨some ⟨g2, 0, none⟩, 6, 6, vI⟩, 6, li, 6, rH⟩ ⟨hB, ⟨some ⟨g3, 0, none⟩, 2, 2, vB⟩, 2, lb, 2, rK⟩)) (fun x wr => 10 - (intOf x).toNat)
                                      case atStart => exact ⟨0, by omega, rfl, HI.out⟩
                                      case round =>
                                        clear HI
                                        obtain ⟨i, hi, rfl, HI⟩ := hrel
                                        by_cases hlt : i < 10
                                        · as_aux_lemma =>
                                            have ni : (i : Int) < 10 := by omega
                                            have hw : IntKind.i64.wrap (1000 + (i : Int)) = 1000 + (i : Int) := by rw [IntKind.wrap_i64]; omega
                                            have hi1 : i < 1000 := by omega
                                            have m1 : wr.cell? ⟨g1, i, none⟩ = some (.slice (hr i).o (hr i).n (hr i).c) := by
                                              obtain ⟨g, hg, hc⟩ := rw_cell HI.out.r.oR HI.out.r.nR HI.out.r.vR hlt
                                              cases hg
                                              exact hc
                                            have m2 : wr.cell? ⟨g4, i, none⟩ = some (.slice (lf i).o (lf i).n (lf i).c) := by
                                              obtain ⟨g, hg, hc⟩ := rw_cell HI.out.r.oG HI.out.r.nG HI.out.r.vG hlt
                                              rw [hg4] at hg
                                              cases hg
                                              exact hc
                                            have d1 := (HDr.out i hlt).1
                                            have va := HAr.out i hlt
                                            have vb := ext_all HAr.out HDr.out hlt
                                            have At1 : Rw.At 26 65 w.heap.size wr (hr i) := HI.out.r.lx.fam.own i hlt
                                            have At2 : Rw.At 26 65 w.heap.size wr (lf i) := HI.out.r.lx.own i hlt
                                            have hsn := HSr.out i hlt
                                            generalize hr i = qa at *
                                            generalize lf i = qb at *
                                            obtain ⟨a1, t1, n1, v1⟩ := qa
                                            obtain ⟨a2, t2, n2', v2⟩ := qb
                                            dsimp only at d1 va vb m1 m2 hsn
                                            subst d1
                                            obtain ⟨g7, ho, _⟩ := At2.there (show 0 < n1 + 9 by omega)
                                            dsimp only at ho
                                            subst ho
                                            have x1 : (List.replicate n1 (mkR i)).length = n1 := by simp
                                            have x2 : (List.replicate (n1 + 9) (mkR i)).length = n1 + 9 := by simp
                                            have s1 : Ress wr a1 (List.replicate n1 (mkR i)) := rw_ress At1 (by simp) (by show v1 = _; rw [va]; exact rows_rep _ _)
                                            have s2 : Ress wr (some ⟨g7, 0, none⟩) (List.replicate (n1 + 9) (mkR i)) := rw_ress At2 (by simp) (by show v2 = _; rw [vb]; exact rows_rep _ _)
                                            have hcd : ∀ N k, k < (List.replicate N (mkR i)).length → ((List.replicate N (mkR i)).getD k res0).code = 1000 + (i : Int) := fun N k hk => by
                                              rw [List.length_replicate] at hk
                                              rw [← mkR_code hi1]
                                              simp [List.getD, hk]
                                            have X3 := hide (hcd n1)
                                            have X4 := hide (hcd (n1 + 9))
                                            have x5 : n1 ≤ 4611686018427387800 := by omega
                                            clear hcd va vb At1 At2
                                            go_upto_region 64 with (fail)
                                            refine wp_region_held_drew (S := fun w' => Kept [] wr w') (by kernel_rfl) ((Kept.refl [] wr).drew) (fun h0 => ?_)
                                            generalize World.drew wr = v0 at h0 ⊢
                                            replace s1 := Ress.kept s1 h0 (by simp)
                                            replace s2 := Ress.kept s2 h0 (by simp)
                                            refine wpAnyH_take (i := 0) (v := .slice (some ⟨g1, 0, none⟩) 10 10) rfl (by kernel_rfl) (by kernel_rfl) (by kernel_rfl) (fun _ _ _ h => h) (Or.inl ⟨by rfl, fun w hSw => by go_simp⟩) h0 ?_
                                            try simp only [List.getElem_toArray, List.getElem_cons_zero, List.getElem_cons_succ, Act.put, List.setIfInBounds_toArray, List.set_cons_zero, List.set_cons_succ]
                                            refine wpAnyH_take (i := 1) (v := .int .i64 i) rfl (by kernel_rfl) (by kernel_rfl) (by kernel_rfl) (fun _ _ _ h => h) (Or.inl ⟨by rfl, fun w hSw => by go_simp⟩) h0 ?_
                                            try simp only [List.getElem_toArray, List.getElem_cons_zero, List.getElem_cons_succ, Act.put, List.setIfInBounds_toArray, List.set_cons_zero, List.set_cons_succ]
                                            refine wpAnyH_take (i := 2) (v := .pointer (some ⟨g1, i, none⟩)) rfl (by kernel_rfl) (by kernel_rfl) (by kernel_rfl) (fun _ _ _ h => h) (Or.inl ⟨by rfl, fun w hSw => by go_simp⟩) h0 ?_
                                            try simp only [List.getElem_toArray, List.getElem_cons_zero, List.getElem_cons_succ, Act.put, List.setIfInBounds_toArray, List.set_cons_zero, List.set_cons_succ]
                                            refine wpAnyH_take (i := 3) (v := .slice a1 n1 t1) rfl (by kernel_rfl) (by kernel_rfl) (by kernel_rfl) (fun _ _ _ h => h) (Or.inl ⟨by rfl, fun w hSw => by have c := Kept.cellOf hSw m1 (by simp); go_simp⟩) h0 ?_
                                            try simp only [List.getElem_toArray, List.getElem_cons_zero, List.getElem_cons_succ, Act.put, List.setIfInBounds_toArray, List.set_cons_zero, List.set_cons_succ]
                                            refine wpAnyH_take (i := 4) (v := .slice (some ⟨g4, 0, none⟩) 10 c4) rfl (by kernel_rfl) (by kernel_rfl) (by kernel_rfl) (fun _ _ _ h => h) (Or.inl ⟨by rfl, fun w hSw => by go_simp⟩) h0 ?_
                                            try simp only [List.getElem_toArray, List.getElem_cons_zero, List.getElem_cons_succ, Act.put, List.setIfInBounds_toArray, List.set_cons_zero, List.set_cons_succ]
                                            refine wpAnyH_take (i := 5) (v := .int .i64 i) rfl (by kernel_rfl) (by kernel_rfl) (by kernel_rfl) (fun _ _ _ h => h) (Or.inl ⟨by rfl, fun w hSw => by go_simp⟩) h0 ?_
                                            try simp only [List.getElem_toArray, List.getElem_cons_zero, List.getElem_cons_succ, Act.put, List.setIfInBounds_toArray, List.set_cons_zero, List.set_cons_succ]
                                            refine wpAnyH_take (i := 6) (v := .pointer (some ⟨g4, i, none⟩)) rfl (by kernel_rfl) (by kernel_rfl) (by kernel_rfl) (fun _ _ _ h => h) (Or.inl ⟨by rfl, fun w hSw => by go_simp⟩) h0 ?_
                                            try simp only [List.getElem_toArray, List.getElem_cons_zero, List.getElem_cons_succ, Act.put, List.setIfInBounds_toArray, List.set_cons_zero, List.set_cons_succ]
                                            refine wpAnyH_take (i := 7) (v := .slice (some ⟨g7, 0, none⟩) (n1 + 9) t2) rfl (by kernel_rfl) (by kernel_rfl) (by kernel_rfl) (fun _ _ _ h => h) (Or.inl ⟨by rfl, fun w hSw => by have c := Kept.cellOf hSw m2 (by simp); go_simp⟩) h0 ?_
                                            try simp only [List.getElem_toArray, List.getElem_cons_zero, List.getElem_cons_succ, Act.put, List.setIfInBounds_toArray, List.set_cons_zero, List.set_cons_succ]
                                            refine wpAnyH_take (i := 8) (v := .int .i64 i) rfl (by kernel_rfl) (by kernel_rfl) (by kernel_rfl) (fun _ _ _ h => h) (Or.inl ⟨by rfl, fun w hSw => by go_simp⟩) h0 ?_
                                            try simp only [List.getElem_toArray, List.getElem_cons_zero, List.getElem_cons_succ, Act.put, List.setIfInBounds_toArray, List.set_cons_zero, List.set_cons_succ]
                                            refine wpAnyH_take (i := 9) (v := .int .i64 (1000 + (i : Int))) rfl (by kernel_rfl) (by kernel_rfl) (by kernel_rfl) (fun _ _ _ h => h) (Or.inl ⟨by rfl, fun w hSw => by go_simp⟩) h0 ?_
                                            try simp only [List.getElem_toArray, List.getElem_cons_zero, List.getElem_cons_succ, Act.put, List.setIfInBounds_toArray, List.set_cons_zero, List.set_cons_succ]
                                            refine wpAnyH_ready (rs := [10]) (by kernel_rfl) (by simp) (AllReadyH.cons (i := 10) rfl (fun K hK => ?_) AllReadyH.nil)
                                            rw [if_pos (by rfl)]
                                            go_simp
                                            refine (bear_yes a1 g7 0 n1 t1 t2 (List.replicate n1 (mkR i)) (List.replicate (n1 + 9) (mkR i)) (1000 + (i : Int)) v0 x1 x2 s1 s2 X3.out X4.out x5).mono ?_
                                            rintro e v1 ⟨rfl, hq⟩
                                            replace s1 := Ress.kept s1 (hq) (by simp)
                                            replace s2 := Ress.kept s2 (hq) (by simp)
                                            refine hK.out _ _ (h0.trans hq (by simp)) (fun h1 => ?_)
                                            clear hK K hq h0
                                            try simp only [List.getElem_toArray, List.getElem_cons_zero, List.getElem_cons_succ, Act.put, List.setIfInBounds_toArray, List.set_cons_zero, List.set_cons_succ]
                                            refine wpAnyH_take (i := 11) (v := .bool false) rfl (by kernel_rfl) (by kernel_rfl) (by kernel_rfl) (fun _ _ _ h => h) (Or.inl ⟨by rfl, fun w hSw => by go_simp⟩) h1 ?_
                                            try simp only [List.getElem_toArray, List.getElem_cons_zero, List.getElem_cons_succ, Act.put, List.setIfInBounds_toArray, List.set_cons_zero, List.set_cons_succ]
                                            refine wpAnyH_done (by kernel_rfl) ?_ _
                                            have HN1 := hide (HI.out.kept h1)
                                            clear h1 s1 s2 m1 m2 X3 X4 HI
                                            go_wp2
                                            go_roundw
                                            case rel => exact ⟨i + 1, by omega, by go_num, HN1.out⟩
                                            case measure => simp [intOf]; omega
                                        · as_aux_lemma =>
                                            go_wp2_with (fail)
                                            go_loopw [60] (fun x wr => ∃ i : Nat, i ≤ 6 ∧ x = .int .i64 i ∧ Hid (T3 w wr ⟨hr, ⟨some ⟨g1, 0, none⟩, 10, 10, vR⟩, 10, lf, 10, rG⟩ ⟨hI, ⟨some ⟨g2, 0, none⟩, 6, 6, vI⟩, 6, li, 6, rH⟩ ⟨hB, ⟨some ⟨g3, 0, none⟩, 2, 2, vB⟩, 2, lb, 2, rK⟩)) (fun x wr => 6 - (intOf x).toNat)
                                            case atStart => exact ⟨0, by omega, rfl, HI.out⟩
                                            case round =>
                                              clear HI
                                              obtain ⟨i, hi, rfl, HI⟩ := hrel
                                              by_cases hlt : i < 6
                                              · as_aux_lemma =>
                                                  have ni : (i : Int) < 6 := by omega
                                                  have hw8 : IntKind.u8.wrap ((i : Int) + 1) = (i : Int) + 1 := by rw [IntKind.wrap_u8]; omega
                                                  have hq1 : (((i : Int) + 1) != ((i : Int) + 1)) = false := by simp
                                                  have hi200 : i < 200 := by omega
                                                  have m1 : wr.cell? ⟨g2, i, none⟩ = some (.slice (hI i).o (hI i).n (hI i).c) := by
                                                    obtain ⟨g, hg, hc⟩ := rw_cell HI.out.i.oR HI.out.i.nR HI.out.i.vR hlt
                                                    cases hg
                                                    exact hc
                                                  have m2 : wr.cell? ⟨g5, i, none⟩ = some (.slice (li i).o (li i).n (li i).c) := by
                                                    obtain ⟨g, hg, hc⟩ := rw_cell HI.out.i.oG HI.out.i.nG HI.out.i.vG hlt
                                                    rw [hg5] at hg
                                                    cases hg
                                                    exact hc
                                                  have d1 := (HDi.out i hlt).1
                                                  have va := HAi.out i hlt
                                                  have vb := ext_all HAi.out HDi.out hlt
                                                  have hsn := HSi.out i hlt
                                                  have CA : Hid (∀ k, k < (hI i).n → ∃ g, (hI i).o = some ⟨g, 0, none⟩ ∧ wr.cell? ⟨g, k * 32, none⟩ = some (.int .u8 ((i : Int) + 1))) := fun k hk => all_first (HI.out.i.lx.fam.own i hlt) va (yi_len i) (yi_first hi200) hk
                                                  have CB : Hid (∀ k, k < (li i).n → ∃ g, (li i).o = some ⟨g, 0, none⟩ ∧ wr.cell? ⟨g, k * 32, none⟩ = some (.int .u8 ((i : Int) + 1))) := fun k hk => all_first (HI.out.i.lx.own i hlt) vb (yi_len i) (yi_first hi200) hk
                                                  clear va vb
                                                  generalize hI i = qa at *
                                                  generalize li i = qb at *
                                                  obtain ⟨a1, t1, n1, v1⟩ := qa
                                                  obtain ⟨a2, t2, n2', v2⟩ := qb
                                                  dsimp only at d1 m1 m2 hsn CA CB
                                                  subst d1
                                                  generalize wr = w0 at *
                                                  go_wp2_with (fail)
                                                  go_loopw [61] (fun x wr => ∃ k : Nat, k ≤ n1 + 9 ∧ x = .int .i64 k ∧ Hid (wr = w0)) (fun x wr => n1 + 9 - (intOf x).toNat)
                                                  case atStart => exact ⟨0, by omega, rfl, rfl⟩
                                                  case round =>
                                                    obtain ⟨k, hk, rfl, HW⟩ := hrel
                                                    have eW : wr = w0 := HW.out
                                                    clear HW
                                                    subst eW
                                                    by_cases hkn : k < n1 + 9
                                                    · have hkz : (k : Int) < (n1 : Int) + 9 := by omega
                                                      obtain ⟨gy, rfl, c2⟩ := CB.out k hkn
                                                      by_cases hka : k < n1
                                                      · have hkaz : (k : Int) < (n1 : Int) := by omega
                                                        obtain ⟨gx, rfl, c1⟩ := CA.out k hka
                                                        go_wp2
                                                        go_roundw
                                                        case rel => exact ⟨k + 1, by omega, by go_num, by first | rfl | trivial⟩
                                                        case measure => simp [intOf]; omega
                                                      · have hkaz : ¬ (k : Int) < (n1 : Int) := by omega
                                                        go_wp2
                                                        go_roundw
                                                        case rel => exact ⟨k + 1, by omega, by go_num, by first | rfl | trivial⟩
                                                        case measure => simp [intOf]; omega
                                                    · have hkz : ¬ (k : Int) < (n1 : Int) + 9 := by omega
                                                      have HN1 := HI
                                                      clear HI
                                                      go_wp2
                                                      go_roundw
                                                      case rel => exact ⟨i + 1, by omega, by go_num, HN1.out⟩
                                                      case measure => simp [intOf]; omega
                                              · as_aux_lemma =>
                                                  go_wp2_with (fail)
                                                  go_loopw [62] (fun x wr => ∃ i : Nat, i ≤ 2 ∧ x = .int .i64 i ∧ Hid (T3 w wr ⟨hr, ⟨some ⟨g1, 0, none⟩, 10, 10, vR⟩, 10, lf, 10, rG⟩ ⟨hI, ⟨some ⟨g2, 0, none⟩, 6, 6, vI⟩, 6, li, 6, rH⟩ ⟨hB, ⟨some ⟨g3, 0, none⟩, 2, 2, vB⟩, 2, lb, 2, rK⟩)) (fun x wr => 2 - (intOf x).toNat)
                                                  case atStart => exact ⟨0, by omega, rfl, HI.out⟩
                                                  case round =>
                                                    clear HI
                                                    obtain ⟨i, hi, rfl, HI⟩ := hrel
                                                    by_cases hlt : i < 2
                                                    · as_aux_lemma =>
                                                        have ni : (i : Int) < 2 := by omega
                                                        have hw8 : IntKind.u8.wrap (100 + (i : Int)) = 100 + (i : Int) := by rw [IntKind.wrap_u8]; omega
                                                        have hq1 : ((100 + (i : Int)) != (100 + (i : Int))) = false := by simp
                                                        have m1 : wr.cell? ⟨g3, i, none⟩ = some (.slice (hB i).o (hB i).n (hB i).c) := by
                                                          obtain ⟨g, hg, hc⟩ := rw_cell HI.out.b.oR HI.out.b.nR HI.out.b.vR hlt
                                                          cases hg
                                                          exact hc
                                                        have m2 : wr.cell? ⟨g6, i, none⟩ = some (.slice (lb i).o (lb i).n (lb i).c) := by
                                                          obtain ⟨g, hg, hc⟩ := rw_cell HI.out.b.oG HI.out.b.nG HI.out.b.vG hlt
                                                          rw [hg6] at hg
                                                          cases hg
                                                          exact hc
                                                        have d1 := (HDb.out i hlt).1
                                                        have va := HAb.out i hlt
                                                        have vb := ext_all HAb.out HDb.out hlt
                                                        have hsn := HSb.out i hlt
                                                        have CA : Hid (∀ k, k < (hB i).n → ∃ g, (hB i).o = some ⟨g, 0, none⟩ ∧ wr.cell? ⟨g, k, none⟩ = some (.int .u8 (100 + (i : Int)))) := fun k hk => all_first1 (HI.out.b.lx.fam.own i hlt) va  hk
                                                        have CB : Hid (∀ k, k < (lb i).n → ∃ g, (lb i).o = some ⟨g, 0, none⟩ ∧ wr.cell? ⟨g, k, none⟩ = some (.int .u8 (100 + (i : Int)))) := fun k hk => all_first1 (HI.out.b.lx.own i hlt) vb  hk
                                                        clear va vb
                                                        generalize hB i = qa at *
                                                        generalize lb i = qb at *
                                                        obtain ⟨a1, t1, n1, v1⟩ := qa
                                                        obtain ⟨a2, t2, n2', v2⟩ := qb
                                                        dsimp only at d1 m1 m2 hsn CA CB
                                                        subst d1
                                                        generalize wr = w0 at *
                                                        go_wp2_with (fail)
                                                        go_loopw [63] (fun x wr => ∃ k : Nat, k ≤ n1 + 70 ∧ x = .int .i64 k ∧ Hid (wr = w0)) (fun x wr => n1 + 70 - (intOf x).toNat)
                                                        case atStart => exact ⟨0, by omega, rfl, rfl⟩
                                                        case round =>
                                                          obtain ⟨k, hk, rfl, HW⟩ := hrel
                                                          have eW : wr = w0 := HW.out
                                                          clear HW
                                                          subst eW
                                                          by_cases hkn : k < n1 + 70
                                                          · have hkz : (k : Int) < (n1 : Int) + 70 := by omega
                                                            obtain ⟨gy, rfl, c2⟩ := CB.out k hkn
                                                            by_cases hka : k < n1
                                                            · have hkaz : (k : Int) < (n1 : Int) := by omega
                                                              obtain ⟨gx, rfl, c1⟩ := CA.out k hka
                                                              go_wp2
                                                              go_roundw
                                                              case rel => exact ⟨k + 1, by omega, by go_num, by first | rfl | trivial⟩
                                                              case measure => simp [intOf]; omega
                                                            · have hkaz : ¬ (k : Int) < (n1 : Int) := by omega
                                                              go_wp2
                                                              go_roundw
                                                              case rel => exact ⟨k + 1, by omega, by go_num, by first | rfl | trivial⟩
                                                              case measure => simp [intOf]; omega
                                                          · have hkz : ¬ (k : Int) < (n1 : Int) + 70 := by omega
                                                            have HN1 := HI
                                                            clear HI
                                                            go_wp2
                                                            go_roundw
                                                            case rel => exact ⟨i + 1, by omega, by go_num, HN1.out⟩
                                                            case measure => simp [intOf]; omega
                                                    · as_aux_lemma =>
                                                        have haw := awake_ok wr
                                                        have HB1 := hide HI.out.bel
                                                        clear HI
                                                        go_wp2_with (go_at_call 12; refine haw.mono ?_; rintro r w1 ⟨rfl, hk⟩; have HK1 := hide hk; clear hk haw)
                                                        go_ret
                                                        exact ⟨rfl, HB1.out.trans (HK1.out.below HB1.out.size (by simp))⟩
end Go.Proofs.Ytmhnjhnnaciokaa
