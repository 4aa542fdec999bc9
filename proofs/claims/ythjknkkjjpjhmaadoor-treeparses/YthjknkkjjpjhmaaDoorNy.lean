/-
  TreeReturns: there and back; the walk.
-/
import Derived.Test.YthjknkkjjpjhmaaDoorNw
import Derived.Test.YthjknkkjjpjhmaaDoorNx
import Derived.Laws.AppendOwnNone
namespace Go.Proofs.YthjknkkjjpjhmaaDoor
open Go.RowKit
set_option linter.unusedVariables false
set_option linter.unusedSimpArgs false

namespace Tn
theorem by_app {xs ys : List UInt8} {a j : Nat} (h : xs.drop a = ys) : by' xs (a + j) = by' ys j := by
  rw [← h]; simp [by', List.getD]
theorem entAt_enc {xs rest : List UInt8} {a : Nat} {e : Ent} (h : xs.drop a = encE e ++ rest) (he : EntOk e) (hk : 0 ≤ e.kind ∧ e.kind < 256) (hn : e.name.length ≤ 32) : entAt xs a = some (e, a + (encE e).length) := by
  have hl := encE_len e he
  have hlen : (xs.drop a).length = (encE e).length + rest.length := by rw [h]; simp
  rw [List.length_drop] at hlen
  have hb0 : by' xs a = e.kind.toNat := by
    have := by_app (j := 0) h
    rw [Nat.add_zero] at this
    rw [this]
    simp [by', encE, List.getD, UInt8.toNat_ofNat', Nat.mod_eq_of_lt (show e.kind.toNat < 256 by omega)]
  have hb1 : by' xs (a + 1) = e.name.length := by
    rw [by_app (j := 1) h]
    simp [by', encE, List.getD, UInt8.toNat_ofNat', Nat.mod_eq_of_lt (show e.name.length < 256 by omega)]
  have d2 : xs.drop (a + 2) = e.name ++ (e.id ++ rest) := by
    have : xs.drop (a + 2) = (xs.drop a).drop 2 := by rw [List.drop_drop]
    rw [this, h]
    simp [encE]
  have d3 : xs.drop (a + 2 + e.name.length) = e.id ++ rest := by
    have : xs.drop (a + 2 + e.name.length) = (xs.drop (a + 2)).drop e.name.length := by rw [List.drop_drop]
    rw [this, d2]
    simp
  unfold entAt
  rw [hb1, hb0, if_neg (by omega), if_neg (by omega), d2, d3]
  have e1 : (e.name ++ (e.id ++ rest)).take e.name.length = e.name := by simp
  have e2 : (e.id ++ rest).take 32 = e.id := by rw [← he.idl]; simp
  rw [e1, e2]
  have e3 : ((e.kind.toNat : Nat) : Int) = e.kind := by omega
  rw [e3, hl]
  congr 2
  omega
theorem upto_enc {L : List Ent} (hok : ∀ e ∈ L, EntOk e) (ht : isTree L = true) (rest : List UInt8) : ∀ k, k ≤ L.length → upto (encT L ++ rest) 2 k = some (L.take k, 2 + ((L.take k).flatMap encE).length)
  | 0, _ => by simp [upto]
  | k + 1, hk => by
    have ih := upto_enc hok ht rest k (by omega)
    obtain ⟨h1, h2, h3⟩ := isTree_at ht (show k < L.length by omega)
    have hmem := getD_mem (show k < L.length by omega)
    have hd : (encT L ++ rest).drop (2 + ((L.take k).flatMap encE).length) = encE (L.getD k ent0) ++ ((L.drop (k + 1)).flatMap encE ++ rest) := by
      have e0 : L.flatMap encE = (L.take k).flatMap encE ++ (encE (L.getD k ent0) ++ (L.drop (k + 1)).flatMap encE) := by
        have e1 : L = L.take k ++ L.getD k ent0 :: L.drop (k + 1) := by
          have : L.getD k ent0 = L[k] := by simp [List.getD, List.getElem?_eq_getElem (show k < L.length by omega)]
          rw [this, ← List.drop_eq_getElem_cons (show k < L.length by omega), List.take_append_drop]
        calc L.flatMap encE = (L.take k ++ L.getD k ent0 :: L.drop (k + 1)).flatMap encE := by rw [← e1]
          _ = _ := by rw [List.flatMap_append, List.flatMap_cons]
      unfold encT
      rw [e0]
      rw [show 2 + ((L.take k).flatMap encE).length = ((L.take k).flatMap encE).length + 1 + 1 by omega]
      simp only [List.cons_append, List.drop_succ_cons]
      rw [List.append_assoc, List.drop_left, List.append_assoc]
    have he := entAt_enc hd (hok _ hmem) ⟨by omega, by omega⟩ h3
    rw [upto_next ih he, take_ent L k (by omega), List.flatMap_append]
    simp [Nat.add_assoc]
theorem encT_len {L : List Ent} (hok : ∀ e ∈ L, EntOk e) (ht : isTree L = true) : 2 ≤ (encT L).length ∧ (encT L).length ≤ 2114 := by
  have h := flat_len (fun i hi => hok _ (getD_mem hi)) ht L.length (Nat.le_refl _)
  rw [List.take_of_length_le (Nat.le_refl _)] at h
  have := isTree_len ht
  simp only [encT, List.length_cons]
  omega
theorem encT_head {L : List Ent} (ht : isTree L = true) (rest : List UInt8) : by' (encT L ++ rest) 0 = 84 ∧ by' (encT L ++ rest) 1 = L.length := by
  have := isTree_len ht
  refine ⟨by simp [by', encT, List.getD], ?_⟩
  simp [by', encT, List.getD, UInt8.toNat_ofNat', Nat.mod_eq_of_lt (show L.length < 256 by omega)]
/-- P7.6: what is written is read again. -/
theorem enc_parse {L : List Ent} (hok : ∀ e ∈ L, EntOk e) (ht : isTree L = true) : parse (encT L) = some L := by
  obtain ⟨h0, h1⟩ := encT_head ht []
  rw [List.append_nil] at h0 h1
  have hl := encT_len hok ht
  have hu := upto_enc hok ht [] L.length (Nat.le_refl _)
  rw [List.append_nil, List.take_of_length_le (Nat.le_refl _)] at hu
  have := isTree_len ht
  have e1 : 2 + (L.flatMap encE).length = (encT L).length := by simp [encT]; omega
  rw [e1] at hu
  exact parse_works h0 (by omega) hl.1 (by rw [h1]; exact hu) ht
theorem enc_more {L : List Ent} (hok : ∀ e ∈ L, EntOk e) (ht : isTree L = true) (rest : List UInt8) (hr : rest ≠ []) : parse (encT L ++ rest) = none := by
  obtain ⟨h0, h1⟩ := encT_head ht rest
  apply parse_fails
  intro L' a hu
  rw [h1, upto_enc hok ht rest L.length (Nat.le_refl _), List.take_of_length_le (Nat.le_refl _)] at hu
  simp only [Option.some.injEq, Prod.mk.injEq] at hu
  have e1 : 2 + (L.flatMap encE).length = (encT L).length := by simp [encT]; omega
  have : 0 < rest.length := List.length_pos_iff.2 hr
  rw [← hu.2, e1, List.length_append]
  omega
/-- P7.7: none is the beginning of another. -/
theorem enc_cut {L : List Ent} (hok : ∀ e ∈ L, EntOk e) (ht : isTree L = true) (k : Nat) (hk : k < (encT L).length) : parse ((encT L).take k) = none := by
  rcases hp : parse ((encT L).take k) with _ | L'
  · rfl
  · exfalso
    obtain ⟨he, ht'⟩ := parse_enc hp
    obtain ⟨_, _, _, hu, _⟩ := parse_inv hp
    have h2 := enc_more (upto_ok hu) ht' ((encT L).drop k) (by
      intro h
      have := congrArg List.length h
      simp at this
      omega)
    rw [he, List.take_append_drop, enc_parse hok ht] at h2
    cases h2
end Tn

/-- append(row, slice...), nil too. -/
theorem run_appSl (w : World) (base : Nat) (v : Value) (xs ys : List UInt8) (h : OwnB w base v xs) (ao : Option Addr) (n c : Nat) (hn : ys.length = n) (hs : Sl w ao ys) (h0 : ao = none → ys = [] ∧ c = 0) (hl : xs.length + n ≤ 140737488355328) (hb : base ≤ w.heap.size) :
    ∃ v' w', (Builtin.append_ #[26, 26] 26 #[v, .slice ao n c]).run Tryd.prog w = .ok v' w' ∧ OwnB w' base v' (xs ++ ys) ∧ Kept v.ownBlock.toList w w' := by
  subst hn
  obtain ⟨i0, hi, hz0, hz1, hz2⟩ := info_parts Tryd.infoByte3
  cases ao with
  | none =>
    obtain ⟨rfl, rfl⟩ := h0 rfl
    refine ⟨v, w, run_append_owned_none (P := Tryd.prog) (w := w) base 26 26 5 i0 1 Tryd.underlying26 hi v xs.length (bys xs) h, by rw [List.append_nil]; exact h, Kept.refl _ _⟩
  | some ad =>
    obtain ⟨v', w', hrun, h1', h2, h3, h4⟩ := run_append_own_at (P := Tryd.prog) w base 26 26 5 i0 (.int .u8 0) 1 1 Tryd.underlying26 hi hz0 hz1 hz2 rfl (by omega) v xs.length (bys xs) h ad ys.length c (bys ys) (by rw [bys_length]; omega)
      (fun j u hj => by
        obtain ⟨hj', rfl⟩ := bys_get hj
        obtain ⟨b', off', e', hc⟩ := hs j hj'
        cases e'
        rw [Addr.add_mid]; exact hc) (bys_oneCell ys) (by unfold maxLen; omega) (by omega) hb
    refine ⟨v', w', hrun, ?_, (Kept.refl _ w).grown h2 (fun k hk _ => by simp [hk])⟩
    unfold OwnB
    rw [List.length_append, bys_append]
    exact h1'
/-- append([]byte{}, slice...). -/
theorem run_freshB (w : World) (ys : List UInt8) (ao : Option Addr) (n c : Nat) (hn : ys.length = n) (hs : Sl w ao ys) (h0 : ao = none → ys = [] ∧ c = 0) (hl : n ≤ 140737488355328) :
    ∃ v' w', (Builtin.append_ #[26, 26] 26 #[.slice (some ⟨w.heap.size, 0, none⟩) 0 0, .slice ao n c]).run Tryd.prog (w.alloc (.cells #[] 5)) = .ok v' w' ∧ OwnB w' w.heap.size v' ys ∧ Kept [] w w' := by
  have hown : OwnB (w.alloc (.cells #[] 5)) w.heap.size (.slice (some ⟨w.heap.size, 0, none⟩) 0 0) [] := World.ownsRow_made w #[] 0 (Nat.le_refl _) (by decide) rfl
  have hk := (Kept.refl [] w).alloc (.cells #[] 5)
  obtain ⟨v', w', h1, h2, h3⟩ := run_appSl _ w.heap.size _ [] ys hown ao n c hn (hs.kept hk (by simp)) h0 (by simpa using hl) hk.size
  rw [List.nil_append] at h2
  exact ⟨v', w', h1, h2, hk.trans h3 (fun g hg hlt => by simp [Value.ownBlock] at hg; omega)⟩
theorem OwnB.nilOf {w : World} {base : Nat} {ao : Option Addr} {n cap : Nat} {xs : List UInt8} (h : OwnB w base (.slice ao n cap) xs) : ao = none → xs = [] ∧ cap = 0 := by
  obtain ⟨ao', cap', hv, _, _, _, _, h0⟩ := h.shape
  cases hv
  exact h0

set_option maxHeartbeats 1600000 in
set_option maxRecDepth 100000 in
theorem returns_no (ao : Option Addr) (n cap : Nat) (mo : Option Addr) (mn mcap : Nat) (cut : Int) (L : List Ent) (w : World) (hT : Tabs w) (hn : L.length = n) (hL : Ents w ao L) (hnc : n ≤ cap) (hcm : cap * 56 ≤ 140737488351232) (ht : Tn.isTree L = false) :
    Calls Tryd.prog 6 #[.slice ao n cap, .slice mo mn mcap, .int .i64 cut] w fun r w' => r = .returned (.bool true) ∧ Below w.heap.size w w' := by
  have hk := known_ok w hT
  have HT := hide hT
  have HL := hide hL
  have he : Tn.encd L = [] := by simp [Tn.encd, ht]
  have HE := hide (And.intro he ht)
  clear hT hL he ht
  go_enter Tryd.func6, Tryd.ntmps6
  go_wp2_with (first
    | (go_at_call 9; refine hk.mono ?_; rintro r w1 ⟨rfl, hb1⟩; have hen := encode_ok ao n cap L w1 hn hnc (by omega) (HL.out.below hb1) (HT.out.below hb1); rw [HE.out.1, HE.out.2] at hen; have HB1 := hide hb1; clear hk hb1)
    | (go_at_call 13; refine hen.mono ?_; rintro r w2 ⟨⟨v, rfl, hv⟩, hb2⟩; obtain ⟨ao2, cap2, hv2, _⟩ := OwnB.shape hv; subst hv2; have hB2 := HB1.out.trans (hb2.mono HB1.out.size); have his := is_ok ao n cap L w2 hn (by omega) (HL.out.below hB2); rw [HE.out.2] at his; have HB2 := hide hB2; clear hen hv hb2 hB2)
    | (go_at_call 22; refine his.mono ?_; rintro r w3 ⟨rfl, hb3⟩; have HB3 := hide (HB2.out.trans (hb3.mono HB2.out.size)); clear his hb3))
  go_ret
  exact ⟨rfl, HB3.out⟩
end Go.Proofs.YthjknkkjjpjhmaaDoor
