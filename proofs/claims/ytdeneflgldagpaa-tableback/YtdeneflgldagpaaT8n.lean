/-
  The walk: freightlaw8.TableBack.
-/
import Derived.Test.YtdeneflgldagpaaT8l
import Derived.Test.YtdeneflgldagpaaT8p
import Derived.Test.YtdeneflgldagpaaT8t
import Derived.Test.YtdeneflgldagpaaZx
namespace Go.Proofs.Ytdeneflgldagpaa
open Go.RowKit Go.Sort
set_option linter.unusedVariables false
set_option linter.unusedSimpArgs false

namespace Tb
theorem flat_drop (L : List Res) (i : Nat) : (L.flatMap encE).drop (65 * i) = (L.drop i).flatMap encE := by
  induction i generalizing L with
  | zero => simp
  | succ i ih =>
    cases L with
    | nil => simp
    | cons e r =>
      rw [List.flatMap_cons, List.drop_succ_cons, ← ih r, show 65 * (i + 1) = (encE e).length + 65 * i by rw [encE_len]; omega, List.drop_append]
      rw [show (encE e).length + 65 * i - (encE e).length = 65 * i by omega, List.drop_of_length_le (by omega), List.nil_append]
theorem encT_len (L : List Res) : (encT L).length = 1 + 65 * L.length := by
  unfold encT
  rw [List.length_cons, flat_len]
  omega
theorem encT_by {L : List Res} (h : L.length ≤ 32) : by' (encT L) 0 = L.length := by
  unfold by' encT
  simp only [List.getD, List.getElem?_cons_zero, Option.getD_some]
  rw [UInt8.toNat_ofNat', Nat.mod_eq_of_lt (by omega)]
theorem encT_drop (L : List Res) (i : Nat) : (encT L).drop (1 + 65 * i) = (L.drop i).flatMap encE := by
  unfold encT
  rw [Nat.add_comm, List.drop_succ_cons, flat_drop]
theorem resAt_enc {L : List Res} (hv : valid L = true) {i : Nat} (hi : i < L.length) : resAt (encT L) (1 + 65 * i) = L.getD i res0 := by
  have hd := encT_drop L i
  rw [show L.drop i = L.getD i res0 :: L.drop (i + 1) by rw [List.drop_eq_getElem_cons hi]; simp [List.getD, List.getElem?_eq_getElem hi]] at hd
  have hc := valid_code hv hi
  generalize L.getD i res0 = e at hd hc
  rw [List.flatMap_cons] at hd
  have ha := e.ha
  have hr := e.hr
  unfold resAt
  have h1 : ((encT L).drop (1 + 65 * i)).take 32 = e.action := by
    rw [hd]
    unfold encE
    rw [List.append_assoc, List.append_assoc, List.take_append_of_le_length (by omega), List.take_of_length_le (by omega)]
  have h2 : ((encT L).drop (1 + 65 * i + 32)).take 32 = e.root := by
    rw [← List.drop_drop, hd]
    unfold encE
    rw [List.append_assoc, List.append_assoc, List.drop_append_of_le_length (by omega), List.drop_of_length_le (by omega), List.nil_append, List.take_append_of_le_length (by omega), List.take_of_length_le (by omega)]
  have h3 : by' (encT L) (1 + 65 * i + 64) = e.code.toNat := by
    have h4 : (encT L)[1 + 65 * i + 64]? = some (UInt8.ofNat e.code.toNat) := by
      rw [← List.getElem?_drop, hd]
      unfold encE
      rw [List.append_assoc, List.append_assoc, List.getElem?_append_right (by omega), ha, List.getElem?_append_right (by omega), hr]
      rfl
    unfold by'
    rw [List.getD, h4]
    simp only [Option.getD_some]
    rw [UInt8.toNat_ofNat', Nat.mod_eq_of_lt (by omega)]
  apply Res.same
  · simp only [h1]; exact pad_eq ha
  · simp only [h2]; exact pad_eq hr
  · simp only [h3]; omega
theorem map_res (L : List Res) (f : Nat → Res) (h : ∀ i, i < L.length → f i = L.getD i res0) : (List.range L.length).map f = L := by
  apply List.ext_getElem
  · simp
  · intro i h1 h2
    simp only [List.getElem_map, List.getElem_range]
    rw [h i h2]
    simp [List.getD, List.getElem?_eq_getElem h2]
/-- P8.3 -/
theorem parse_enc {L : List Res} (hv : valid L = true) : parse (encT L) = some L := by
  have h32 := valid_len hv
  have hm : ((List.range (by' (encT L) 0)).map fun i => resAt (encT L) (1 + 65 * i)) = L := by
    rw [encT_by h32]
    exact map_res L _ (fun i hi => resAt_enc hv hi)
  unfold parse
  rw [hm, if_pos ⟨by rw [encT_len]; omega, by rw [encT_by h32]; exact h32, by rw [encT_len, encT_by h32], hv⟩]
theorem parse_valid {xs : List UInt8} {L : List Res} (h : parse xs = some L) : valid L = true := by
  unfold parse at h
  split at h
  · rename_i hc
    cases h
    exact hc.2.2.2
  · cases h
theorem encE_at {xs : List UInt8} {a : Nat} (h : a + 65 ≤ xs.length) : encE (resAt xs a) = (xs.drop a).take 65 := by
  unfold encE resAt
  simp only
  rw [pad_eq (by simp; omega), pad_eq (by simp; omega)]
  have h1 : ((by' xs (a + 64) : Nat) : Int).toNat = by' xs (a + 64) := Int.toNat_natCast _
  rw [h1]
  have h2 : UInt8.ofNat (by' xs (a + 64)) = xs.getD (a + 64) 0 := by unfold by'; exact UInt8.ofNat_toNat
  rw [h2, ← List.drop_drop]
  generalize hy : xs.drop a = ys
  have hl : 65 ≤ ys.length := by rw [← hy]; simp; omega
  have h3 : xs.getD (a + 64) 0 = ys.getD 64 0 := by rw [← hy]; simp [List.getD, List.getElem?_drop]
  rw [h3]
  have h4 : ys.take 65 = ys.take 64 ++ [ys.getD 64 0] := take_snoc' ys 0 64 (by omega)
  rw [h4, show (64 : Nat) = 32 + 32 from rfl, List.take_add]
theorem flat_chunks (n : Nat) : ∀ (ys : List UInt8), ys.length = 65 * n → (List.range n).flatMap (fun i => (ys.drop (65 * i)).take 65) = ys := by
  induction n with
  | zero => intro ys h; simp at h; simp [h]
  | succ n ih =>
    intro ys h
    rw [List.range_succ, List.flatMap_append]
    have h1 : (List.range n).flatMap (fun i => (ys.drop (65 * i)).take 65) = ys.take (65 * n) := by
      rw [← ih (ys.take (65 * n)) (by simp; omega)]
      rw [List.flatMap_def, List.flatMap_def]
      congr 1
      apply List.map_congr_left
      intro i hi
      have hi' : i < n := by simpa using hi
      rw [List.drop_take, List.take_take, Nat.min_eq_left (by omega)]
    rw [h1]
    simp only [List.flatMap_cons, List.flatMap_nil, List.append_nil]
    have h2 : (ys.drop (65 * n)).take 65 = ys.drop (65 * n) := List.take_of_length_le (by rw [List.length_drop]; omega)
    rw [h2, List.take_append_drop]
theorem enc_parse {xs : List UInt8} {L : List Res} (h : parse xs = some L) : encT L = xs := by
  unfold parse at h
  split at h
  · rename_i hc
    obtain ⟨h0, h32, hl, _⟩ := hc
    cases h
    obtain ⟨c, rest, e⟩ : ∃ c rest, xs = c :: rest := by
      cases xs with
      | nil => simp at h0
      | cons c rest => exact ⟨c, rest, rfl⟩
    have hn : by' xs 0 = c.toNat := by rw [e]; rfl
    unfold encT
    rw [List.length_map, List.length_range, List.flatMap_map]
    have h1 : UInt8.ofNat (by' xs 0) = c := by rw [hn]; exact UInt8.ofNat_toNat
    rw [h1]
    have h2 : (List.range (by' xs 0)).flatMap (fun i => encE (resAt xs (1 + 65 * i))) = rest := by
      have hr : rest.length = 65 * by' xs 0 := by rw [e, List.length_cons, ← e] at hl; omega
      rw [← flat_chunks (by' xs 0) rest hr]
      rw [List.flatMap_def, List.flatMap_def]
      congr 1
      apply List.map_congr_left
      intro i hi
      have hi' : i < by' xs 0 := by simpa using hi
      rw [encE_at (by rw [hl]; omega)]
      congr 1
      rw [Nat.add_comm 1]
      conv => lhs; rw [e]
      rw [List.drop_succ_cons]
    rw [h2, e]
  · cases h
theorem parse_more {L : List Res} (hv : valid L = true) (c : UInt8) : parse (encT L ++ [c]) = none := by
  have h32 := valid_len hv
  have hb : by' (encT L ++ [c]) 0 = L.length := by
    rw [← encT_by h32]
    unfold by'
    simp only [List.getD]
    rw [List.getElem?_append_left (by rw [encT_len]; omega)]
  unfold parse
  rw [if_neg]
  rintro ⟨_, _, hl, _⟩
  rw [hb, List.length_append, encT_len, List.length_singleton] at hl
  omega
theorem parse_less {L : List Res} (hv : valid L = true) {m : Nat} (hm : m + 1 = (encT L).length) : parse ((encT L).take m) = none := by
  have h32 := valid_len hv
  rw [encT_len] at hm
  unfold parse
  rw [if_neg]
  rintro ⟨h0, _, hl, _⟩
  have hlen : ((encT L).take m).length = m := by rw [List.length_take, encT_len]; omega
  rw [hlen] at hl h0
  have hb : by' ((encT L).take m) 0 = L.length := by
    rw [← encT_by h32]
    unfold by'
    simp only [List.getD]
    rw [List.getElem?_take, if_pos (by omega)]
  rw [hb] at hl
  omega
end Tb
theorem wao (ao : Option Addr) : Wao ao := by cases ao with
  | none => exact .inl rfl
  | some a => exact .inr ⟨a, rfl⟩
theorem Try.infoByte5 : (Try.prog.info? 5).map (fun i => (i.zero, i.size, i.bytes)) = some (some (.int .u8 0), 1, 1) := by kernel_rfl
theorem Try.cutHiC (W : World) (ao : Option Addr) (L cap m : Nat) (hm : m ≤ cap) :
    (Instr.slice 25 (.slice ao L cap) none (some (.int .i64 m)) none).run Try.prog W = .ok (.slice ao m cap) W := by
  have hz : (sizeOf (Try.prog.elem 25)).run Try.prog W = .ok 1 W := by kernel_rfl
  have h := run_slice_h (P := Try.prog) W 25 ao L cap (by kernel_rfl) .i64 m (by omega) (by omega)
  rw [h, hz]
  cases ao <;> simp [sliced, Addr.add]
theorem own_sl8 {w : World} {base : Nat} {v : Value} {xs : List UInt8} (h : w.ownsRow base 5 1 v xs.length (bys xs)) : ∃ bo c, v = .slice bo xs.length c ∧ xs.length ≤ c ∧ Sl w bo xs ∧ (bo = none → xs = [] ∧ c = 0) := by
  rcases h.2 with ⟨rfl, h0⟩ | ⟨g, cap, cur, rfl, hb2, hg, hn, hc, hs, ht⟩
  · have : xs = [] := List.eq_nil_of_length_eq_zero h0
    subst this
    exact ⟨none, 0, rfl, Nat.le_refl _, Sl.nil _ _, fun _ => ⟨rfl, rfl⟩⟩
  · refine ⟨_, cap, rfl, hn, fun i hi => ⟨g, 0, rfl, ?_⟩, by simp⟩
    rw [Nat.zero_add, cell_of_row _ _ _ _ _ _ hg]
    have h1 := bys_at hi
    rw [← ht, List.getElem?_take] at h1
    split at h1
    · simpa using h1
    · cases h1
/-- append(append([]byte{}, s...), c): s a row that is there. -/
theorem run_two (w : World) (b off n c : Nat) (xs : List UInt8) (y : UInt8) (hn : xs.length = n) (hm : n ≤ 1000000) (hs : Sl w (some ⟨b, off, none⟩) xs) :
    ∃ v1 w1 bo c2 w2, (Builtin.append_ #[25, 25] 25 #[.slice (some ⟨w.heap.size, 0, none⟩) 0 0, .slice (some ⟨b, off, none⟩) n c]).run Try.prog (w.alloc (.cells #[] 5)) = .ok v1 w1 ∧
      (Builtin.append_ #[25, 25] 25 #[v1, .slice (some ⟨w1.heap.size, 0, none⟩) 1 1]).run Try.prog (w1.alloc (.cells #[.int .u8 y.toNat] 5)) = .ok (.slice bo (n + 1) c2) w2 ∧ n + 1 ≤ c2 ∧ Sl w2 bo (xs ++ [y]) ∧ (bo = none → xs ++ [y] = [] ∧ c2 = 0) ∧ Kept [] w w2 := by
  have kN : Kept [] w (w.alloc (.cells #[] 5)) := (Kept.refl [] w).alloc _
  have ho : (w.alloc (.cells #[] 5)).ownsRow w.heap.size 5 1 (.slice (some ⟨w.heap.size, 0, none⟩) 0 0) 0 [] := World.ownsRow_made w #[] 0 (Nat.le_refl _) (Nat.zero_le _) (by simp)
  obtain ⟨i0, hi, hz0, hz1, hz2⟩ := info_parts Try.infoByte5
  obtain ⟨v1, w1, hrun1, o1, g1, _, q1⟩ := run_append_own_at (P := Try.prog) (w.alloc (.cells #[] 5)) w.heap.size 25 25 5 i0 (.int .u8 0) 1 1 Try.underlying25 hi hz0 hz1 hz2 rfl (by omega) _ 0 [] ho ⟨b, off, none⟩ n c (bys xs) (by rw [bys_length, hn, Nat.mul_one])
    (fun j u hj => by
      obtain ⟨hj', rfl⟩ := bys_get hj
      rw [Addr.add_mid]
      obtain ⟨_, _, e, hc⟩ := hs j hj'
      cases e
      exact kN.cellOf hc (by simp)) (bys_oneCell xs) (by unfold maxLen; omega) (by omega) kN.size
  rw [Nat.zero_add, List.nil_append] at o1
  have k1 : Kept [] w w1 := ((Kept.refl [] w).alloc _).grown g1 (fun k hk hlt => by simp [Value.ownBlock] at hk; omega)
  have kM : Kept [] w1 (w1.alloc (.cells #[.int .u8 y.toNat] 5)) := (Kept.refl [] w1).alloc _
  have o1' : (w1.alloc (.cells #[.int .u8 y.toNat] 5)).ownsRow w.heap.size 5 1 v1 n (bys xs) := by
    refine ⟨o1.1, ?_⟩
    rcases o1.2 with h0 | ⟨g, cap, cur, hv, hb, hg, rest⟩
    · exact .inl h0
    · refine .inr ⟨g, cap, cur, hv, hb, ?_, rest⟩
      rw [kM.block g (Array.getElem?_eq_some_iff.1 hg).1 (by simp)]
      exact hg
  have hnew := heap_new w1 (.cells #[.int .u8 y.toNat] 5)
  obtain ⟨v2, w2, hrun2, o2, g2, _, q2⟩ := run_append_own_at (P := Try.prog) (w1.alloc (.cells #[.int .u8 y.toNat] 5)) w.heap.size 25 25 5 i0 (.int .u8 0) 1 1 Try.underlying25 hi hz0 hz1 hz2 rfl (by omega) v1 n (bys xs) o1' ⟨w1.heap.size, 0, none⟩ 1 1 (bys [y]) rfl
    (fun j u hj => by obtain ⟨hj', rfl⟩ := bys_get hj; rw [Addr.add_mid, Nat.zero_add, cell_of_row _ _ _ _ _ _ hnew]; obtain rfl : j = 0 := by simpa using hj'
                      rfl) (bys_oneCell [y]) (by unfold maxLen; omega) (by omega) (Nat.le_trans k1.size kM.size)
  rw [← bys_append] at o2
  have hl : (xs ++ [y]).length = n + 1 := by simp [hn]
  rw [← hl] at o2
  obtain ⟨bo, c2, rfl, hc2, hs2, hnl⟩ := own_sl8 o2
  rw [hl] at hrun2 hc2
  refine ⟨v1, w1, bo, c2, w2, hrun1, hrun2, hc2, hs2, hnl, ?_⟩
  have k2 : Kept v1.ownBlock.toList w1 w2 := ((Kept.refl v1.ownBlock.toList w1).alloc _).grown g2 (fun k hk _ => by simp [hk])
  refine k1.trans k2 (fun i hi hlt => ?_)
  rcases o1.2 with ⟨rfl, _⟩ | ⟨g, cap, cur, rfl, hb, _⟩
  · simp [Value.ownBlock] at hi
  · simp [Value.ownBlock] at hi
    omega

set_option maxHeartbeats 12800000 in
set_option maxRecDepth 100000 in
theorem back_walk (ao : Option Addr) (n cap : Nat) (L : List Res) (w : World) (hi : InR w ao n cap L) :
    Calls Try.prog 8 #[.slice ao n cap] w fun e w' => e = .returned (.bool true) ∧ Below w.heap.size w w' := by
  have hcm := hi.max
  have hle := hi.le
  have hm : n ≤ 4611686018427387904 := by omega
  have HL := hide hi.ress
  have HN := hide hi.len
  have hen := encode_ok ao n cap L w hi.len hm hi.ress (wao ao)
  clear hi hcm hle
  obtain ⟨V, hV⟩ : ∃ V, Tb.valid L = V := ⟨_, rfl⟩
  have HV := hide hV
  rw [hV] at hen
  cases V with
  | false =>
    have hE : Tb.encd L = [] := by unfold Tb.encd; rw [hV]; rfl
    rw [hE] at hen
    clear hV hE
    go_enter Try.func8, Try.ntmps8
    go_upto_region 2 with (go_at_call 10; refine hen.mono ?_; intro r w2 ht; obtain ⟨bo1, c1, m, rfl, hm1, hs1, hb1, _, hk1⟩ := told_open ht; obtain rfl : m = 0 := hm1.symm; have H2 := hide hk1; clear ht hm1 hs1 hb1 hk1 hen)
    have hft := fits_ok ao n cap L w2 HN.out (HL.out.kept H2.out (by simp)) hm
    rw [HV.out] at hft
    have e80 : Tb.code false = 80 := rfl
    rw [e80]
    go_wp2_with (first
      | (go_at_call 28; refine hft.mono ?_; rintro r w3 ⟨rfl, hk3⟩; have K3 := hide (H2.out.trans hk3 (by simp)); clear hk3 hft; have hva := valid_ok ao n cap L w3 HN.out (HL.out.kept K3.out (by simp)) (wao ao) hm; rw [HV.out] at hva)
      | (go_at_call 13; refine hva.mono ?_; rintro r w4 ⟨rfl, hk4⟩; have K4 := hide (K3.out.trans hk4 (by simp)); clear hk4 hva)
      | (go_at_call 17; refine (awake_ok _).mono ?_; rintro r w5 ⟨rfl, hk5⟩; have HD := hide hk5; clear hk5))
    go_ret
    exact ⟨rfl, (K4.out.trans HD.out (by simp)).below (Nat.le_refl _) (by simp)⟩
  | true =>
    have hE : Tb.encd L = Tb.encT L := by unfold Tb.encd; rw [hV]; rfl
    rw [hE] at hen
    have HP1 := hide (Tb.parse_enc hV)
    have HP2 := hide (Tb.parse_more hV 0)
    have HP3 : Hid (∀ m, m + 1 = (Tb.encT L).length → Tb.parse ((Tb.encT L).take m) = none) := fun m h => Tb.parse_less hV h
    have h32 : n ≤ 32 := by have := Tb.valid_len hV; rw [HN.out] at this; exact this
    have HEL := hide (Tb.encT_len L)
    rw [HN.out] at HEL
    have HES := hide hE
    clear hV hE
    generalize Tb.encT L = E at hen HP1 HP2 HP3 HEL HES
    have e0 : Tb.code true = 0 := rfl
    go_enter Try.func8, Try.ntmps8
    go_upto_region 2 with (go_at_call 10; refine hen.mono ?_; intro r w2 ht; obtain ⟨bo1, c1, m, rfl, hm1, hs1, hb1, hmc, hk1⟩ := told_open ht; rw [e0]; have H2 := hide (And.intro hm1 (And.intro hs1 (And.intro hk1 hmc))); clear ht hm1 hs1 hb1 hk1 hen hmc)
    clear e0
    have hml : m ≤ 2081 := by have := H2.out.1; have := HEL.out; omega
    obtain ⟨q, hq⟩ : ∃ q, m = q + 1 := ⟨m - 1, by have := H2.out.1; have := HEL.out; omega⟩
    have HQ := hide hq
    clear hq
    obtain ⟨b, off, rfl, _⟩ := H2.out.2.1 0 (by rw [H2.out.1, HQ.out]; omega)
    have hft := fits_ok ao n cap L w2 HN.out (HL.out.kept H2.out.2.2.1 (by simp)) hm
    rw [HV.out] at hft
    have hmz : ((m : Int) == 0) = false := by have := HQ.out; simp; omega
    go_upto_region 6 with (go_at_call 28; refine hft.mono ?_; rintro r w3 ⟨rfl, hk3⟩; have K3 := hide hk3; clear hk3 hft)
    clear hmz
    have S3 : Hid (Sl w3 (some ⟨b, off, none⟩) E ∧ Kept [] w w3) := ⟨H2.out.2.1.kept K3.out (by simp), H2.out.2.2.1.trans K3.out (by simp)⟩
    have HM : Hid (E.length = m ∧ m ≤ c1) := ⟨H2.out.1, H2.out.2.2.2⟩
    clear H2 K3
    have hpa := parse_ok (some ⟨b, off, none⟩) m c1 E w3 HM.out.1 (by omega) S3.out.1 (by simp)
    rw [HP1.out] at hpa
    have e1 : Tb.code (some L).isSome = 0 := rfl
    rw [e1] at hpa
    go_upto_region 7 with (go_at_call 18; refine hpa.mono ?_; intro r w4 ht; obtain ⟨bo2, c2, n2, rfl, hm1, hs1, hb1, hk1⟩ := told_openR ht; obtain rfl : n2 = n := (hm1.symm.trans HN.out); have H4 := hide (And.intro hs1 hk1); clear ht hm1 hs1 hb1 hk1 hpa)
    clear e1
    have S4 : Hid (Sl w4 (some ⟨b, off, none⟩) E ∧ Ress w4 bo2 L ∧ Kept [] w w4) := ⟨S3.out.1.kept H4.out.2 (by simp), H4.out.1, S3.out.2.trans H4.out.2 (by simp)⟩
    clear S3 H4
    have hen := encode_ok bo2 n2 c2 L w4 HN.out hm S4.out.2.1 (wao bo2)
    rw [HV.out, HES.out] at hen
    have e0 : Tb.code true = 0 := rfl
    go_upto_region 8 with (go_at_call 10; refine hen.mono ?_; intro r w5 ht; obtain ⟨bo3, c3, m3, rfl, hm1, hs1, hb1, hmc, hk1⟩ := told_open ht; rw [e0]; obtain rfl : m3 = m := (hm1.symm.trans HM.out.1); have H5 := hide (And.intro hs1 hk1); clear ht hm1 hs1 hb1 hk1 hen hmc)
    clear e0
    have S5 : Hid (Sl w5 (some ⟨b, off, none⟩) E ∧ Ress w5 bo2 L ∧ Sl w5 bo3 E ∧ Kept [] w w5) := ⟨S4.out.1.kept H5.out.2 (by simp), S4.out.2.1.kept H5.out.2 (by simp), H5.out.1, S4.out.2.2.trans H5.out.2 (by simp)⟩
    clear S4 H5
    obtain ⟨v6, w6, bo6, c6, w7, hrun1, hrun2, hc6, hs7, hn7, hk7⟩ := run_two w5 b off m3 c1 E 0 HM.out.1 (by omega) S5.out.1
    have S7 : Hid (Sl w7 (some ⟨b, off, none⟩) E ∧ Ress w7 bo2 L ∧ Sl w7 bo3 E ∧ Kept [] w w7) := ⟨S5.out.1.kept hk7 (by simp), S5.out.2.1.kept hk7 (by simp), S5.out.2.2.1.kept hk7 (by simp), S5.out.2.2.2.trans hk7 (by simp)⟩
    have hpa := parse_ok bo6 (m3 + 1) c6 (E ++ [0]) w7 (by simp [HM.out.1]) (by omega) hs7 hn7
    rw [HP2.out] at hpa
    have e80 : Tb.code (none : Option (List Res)).isSome = 80 := rfl
    rw [e80] at hpa
    rw [show ((0 : UInt8).toNat : Int) = 0 from rfl] at hrun2
    clear hs7 hn7 hk7 S5
    go_upto_region 9 with (first
      | refine wpList_app_run rfl (.tmp 50) (.tmp 51) 25 25 rfl (.slice (some ⟨w5.heap.size, 0, none⟩) 0 0) (.slice (some ⟨b, off, none⟩) m3 c1) rfl rfl v6 w6 hrun1 ?_
      | refine wpList_app_run rfl (.tmp 52) (.tmp 53) 25 25 rfl v6 (.slice (some ⟨w6.heap.size, 0, none⟩) 1 1) rfl rfl (.slice bo6 (m3 + 1) c6) w7 hrun2 ?_
      | (go_at_call 18; refine hpa.mono ?_; intro r w8 ht; obtain ⟨bo8, c8, n8, rfl, hm1, hs1, hb1, hk1⟩ := told_openR ht; have H8 := hide hk1; clear ht hm1 hs1 hb1 hk1 hpa))
    clear hrun1 hrun2
    have S8 : Hid (Sl w8 (some ⟨b, off, none⟩) E ∧ Ress w8 bo2 L ∧ Sl w8 bo3 E ∧ Kept [] w w8) := ⟨S7.out.1.kept H8.out (by simp), S7.out.2.1.kept H8.out (by simp), S7.out.2.2.1.kept H8.out (by simp), S7.out.2.2.2.trans H8.out (by simp)⟩
    clear S7 H8
    have hcut := fun W => Try.cutHiC W (some ⟨b, off, none⟩) m3 c1 q (by have := HM.out.2; have := HQ.out; omega)
    have hpa := parse_ok (some ⟨b, off, none⟩) q c1 (E.take q) w8 (by rw [List.length_take, HM.out.1]; have := HQ.out; omega) (by have := HQ.out; omega) (S8.out.1.take q) (by simp)
    rw [HP3.out q (show q + 1 = E.length by rw [HM.out.1]; exact HQ.out.symm), e80] at hpa
    have em : (m3 : Int) - 1 = (q : Int) := by have := HQ.out; omega
    have wm : IntKind.i64.wrap (q : Int) = (q : Int) := by have := HQ.out; rw [IntKind.wrap_i64]; omega
    clear e80
    go_upto_region 10 with (go_at_call 18; refine hpa.mono ?_; intro r w9 ht; obtain ⟨bo9, c9, n9, rfl, hm1, hs1, hb1, hk1⟩ := told_openR ht; have H9 := hide hk1; clear ht hm1 hs1 hb1 hk1 hpa)
    clear hcut em wm
    have S9 : Hid (Ress w9 bo2 L ∧ Sl w9 (some ⟨b, off, none⟩) E ∧ Sl w9 bo3 E ∧ Kept [] w w9) := ⟨S8.out.2.1.kept H9.out (by simp), S8.out.1.kept H9.out (by simp), S8.out.2.2.1.kept H9.out (by simp), S8.out.2.2.2.trans H9.out (by simp)⟩
    clear S8 H9
    have hlk := like_yes bo2 ao n2 c2 cap L w9 HN.out hm S9.out.1 (HL.out.kept S9.out.2.2.2 (by simp))
    go_wp2_with (first
      | (go_at_call 20; refine hlk.mono ?_; rintro r w10 ⟨rfl, hk⟩; have K1 := hide hk; clear hk hlk; have hsm := same_yes bo3 (some ⟨b, off, none⟩) m3 c3 c1 E w10 HM.out.1 (by omega) (S9.out.2.2.1.kept K1.out (by simp)) (S9.out.2.1.kept K1.out (by simp)))
      | (go_at_call 12; refine hsm.mono ?_; rintro r w11 ⟨rfl, hk⟩; have K2 := hide (K1.out.trans hk (by simp)); clear hk hsm; have hva := valid_ok ao n2 cap L w11 HN.out (HL.out.kept (S9.out.2.2.2.trans K2.out (by simp)) (by simp)) (wao ao) hm; rw [HV.out] at hva)
      | (go_at_call 13; refine hva.mono ?_; rintro r w12 ⟨rfl, hk⟩; have K4 := hide (K2.out.trans hk (by simp)); clear hk hva)
      | (go_at_call 17; refine (awake_ok _).mono ?_; rintro r w13 ⟨rfl, hk5⟩; have HD := hide hk5; clear hk5))
    go_ret
    exact ⟨rfl, ((S9.out.2.2.2.trans K4.out (by simp)).trans HD.out (by simp)).below (Nat.le_refl _) (by simp)⟩
end Go.Proofs.Ytdeneflgldagpaa
