/-
  Contract: the statements' own Book: grow.
-/
import Derived.Test.YtjmameknbnflaabBo3
namespace Go.Proofs.Ytjmameknbnflaab
open Go.RowKit
set_option linter.unusedVariables false
set_option linter.unusedSimpArgs false

/-- What holds at the heads of grow's loops. -/
structure GrowRel (w wr : World) (base B : Nat) (rv : Value) (ow : Nat → Nat) (L M k i : Nat) : Prop where
  ex : ∃ es ow', BookS wr base B rv es ow' ∧ es.length = L ∧ (∀ j, j < L → (es.getD j en0).m ≤ M + (if j < k then 64 else if j = k then i else 0)) ∧ (∀ g, g < w.heap.size → ow' g = ow g)
  kept : Kept (blk w base ow isRow) w wr

theorem GrowRel.next {w wr : World} {base B : Nat} {rv : Value} {ow : Nat → Nat} {L M k i : Nat} (h : GrowRel w wr base B rv ow L M k i) (hi : i ≤ 64) : GrowRel w wr base B rv ow L M (k + 1) 0 := by
  obtain ⟨es, ow', h1, h2, h3, h4⟩ := h.ex
  refine ⟨⟨es, ow', h1, h2, fun j hj => ?_, h4⟩, h.kept⟩
  have := h3 j hj
  split at this
  · rw [if_pos (by omega)]; exact this
  · split at this
    · rw [if_pos (by omega)]; omega
    · rw [if_neg (by omega)]; split <;> omega

theorem GrowRel.step {w wr w2 : World} {base B rg L rc M k i gg cap2 : Nat} {ow ow2 : Nat → Nat} {es : List En} {ob : Obj} (h : GrowRel w wr base B (.slice (some ⟨rg, 0, none⟩) L rc) ow L M k i) (hbs : BookS wr base B (.slice (some ⟨rg, 0, none⟩) L rc) es ow2) (hlen : es.length = L) (hmm : ∀ j, j < L → (es.getD j en0).m ≤ M + (if j < k then 64 else if j = k then i else 0)) (hag : ∀ g, g < w.heap.size → ow2 g = ow g) (hk : k < L)
    (hown2 : w2.ownsRow base 5 1 (.slice (some ⟨gg, 0, none⟩) ((es.getD k en0).m + 1) cap2) ((es.getD k en0).m + 1) (bys (es.getD k en0).row ++ [.int .u8 (((es.getD k en0).mc.toNat : Int) + 1)]))
    (hgrow : (wr.alloc ob).drew.grownBy w2 (Value.slice (es.getD k en0).go (es.getD k en0).m (es.getD k en0).gc).ownBlock)
    (hat : (Value.slice (es.getD k en0).go (es.getD k en0).m (es.getD k en0).gc).ownBlock = some gg ∨ (gg = wr.heap.size + 1 ∧ (wr.alloc ob).drew.grownBy w2 none)) :
    GrowRel w (w2.setCell ⟨rg, k * 3 + 1, none⟩ (.slice (some ⟨gg, 0, none⟩) ((es.getD k en0).m + 1) cap2)) base B (.slice (some ⟨rg, 0, none⟩) L rc) ow L M k (i + 1) := by
  obtain ⟨ow3, h1, h2, h3⟩ := hbs.grown (by rw [hlen]; exact hk) hown2 hgrow hat
  refine ⟨⟨_, ow3, h1, by rw [List.length_set]; exact hlen, fun j hj => ?_, fun g hg => ?_⟩, h.kept.trans h3 (fun g hg hlt => ?_)⟩
  · by_cases hjk : j = k
    · subst hjk
      rw [getD_set_self (by rw [hlen]; exact hk)]
      have := hmm j hj
      rw [if_neg (by omega), if_pos rfl] at this ⊢
      show (es.getD j en0).m + 1 ≤ _
      omega
    · rw [getD_set_ne hjk]
      have := hmm j hj
      rw [if_neg hjk] at this ⊢
      exact this
  · rw [h2 g (Nat.lt_of_lt_of_le hg h.kept.size)]
    exact hag g hg
  · have := (mem_blk.1 hg).2
    rw [hag g hlt] at this
    exact mem_blk.2 ⟨hlt, this⟩

theorem grow_facts {wr w2 : World} {base B rg L rc k : Nat} {ow2 : Nat → Nat} {es : List En} {ob : Obj} (hbs : BookS wr base B (.slice (some ⟨rg, 0, none⟩) L rc) es ow2) (hkl : k < es.length) (hgrow : (wr.alloc ob).drew.grownBy w2 (Value.slice (es.getD k en0).go (es.getD k en0).m (es.getD k en0).gc).ownBlock) :
    w2.frozen? ⟨rg, k * 3 + 1, none⟩ = false ∧ w2.cell? ⟨B, 0, none⟩ = some (.slice (some ⟨rg, 0, none⟩) L rc) ∧ w2.cell? ⟨rg, k * 3 + 2, none⟩ = some (.int .u8 (es.getD k en0).mc.toNat) ∧ ∃ u, w2.cell? ⟨rg, k * 3 + 1, none⟩ = some u := by
  have hk2 : Kept (Value.slice (es.getD k en0).go (es.getD k en0).m (es.getD k en0).gc).ownBlock.toList wr w2 := (((Kept.refl _ wr).alloc ob).drew).grown hgrow (fun g hg _ => by rw [hg]; simp)
  have hE := hbs.en k hkl
  have hobs : ∀ g, (Value.slice (es.getD k en0).go (es.getD k en0).m (es.getD k en0).gc).ownBlock = some g → ow2 g = 100 + k := fun g hg => hbs.oE k hkl g (by rw [ownBlock_slice hE.own] at hg; unfold En.fp; exact List.mem_append_right _ hg)
  have hrn : rg ∉ (Value.slice (es.getD k en0).go (es.getD k en0).m (es.getD k en0).gc).ownBlock.toList := fun hm => by
    have h1 := hobs rg (Option.mem_toList.1 hm)
    have h2 := hbs.oR rg rfl
    omega
  have hBn : B ∉ (Value.slice (es.getD k en0).go (es.getD k en0).m (es.getD k en0).gc).ownBlock.toList := fun hm => by
    have h1 := hobs B (Option.mem_toList.1 hm)
    have h2 := hbs.oB
    omega
  obtain ⟨rg', hro', _, b1, b2⟩ := hbs.bk.at hkl
  cases hro'
  have hrl := (hbs.bk.own.lt rg rfl).2
  have hfz : wr.frozen? ⟨rg, k * 3 + 1, none⟩ = false := by
    rcases hbs.bk.own.2 with ⟨e1, _⟩ | ⟨g', cap, cur, e1, _, hg, _⟩
    · cases e1
    · cases e1
      exact frozen_of_row _ _ _ _ _ hg
  exact ⟨(hk2.frozen (p := ⟨rg, k * 3 + 1, none⟩) hrl hrn).trans hfz, hk2.cellOf hbs.bk.c0 hBn, hk2.cellOf b2 hrn, _, hk2.cellOf b1 hrn⟩

/-- What grow leaves. -/
def GrowEnd (w w' : World) (base B : Nat) (rv : Value) (ow : Nat → Nat) (L M : Nat) : Prop :=
  ∃ es ow', BookS w' base B rv es ow' ∧ es.length = L ∧ (∀ j, j < L → (es.getD j en0).m ≤ M + 64) ∧ (∀ g, g < w.heap.size → ow' g = ow g) ∧ Kept (blk w base ow isRow) w w'

theorem GrowRel.done {w wr : World} {base B : Nat} {rv : Value} {ow : Nat → Nat} {L M k : Nat} (h : GrowRel w wr base B rv ow L M k 0) : GrowEnd w wr base B rv ow L M := by
  obtain ⟨es, ow', h1, h2, h3, h4⟩ := h.ex
  refine ⟨es, ow', h1, h2, fun j hj => ?_, h4, h.kept⟩
  have := h3 j hj
  split at this
  · exact this
  · split at this <;> omega

set_option maxHeartbeats 12000000 in
set_option maxRecDepth 100000 in
theorem bkgrow_ok {w : World} {base B : Nat} {rv : Value} {es : List En} {ow : Nat → Nat} {M : Nat} (h : BookS w base B rv es ow) (hM : ∀ j, j < es.length → (es.getD j en0).m ≤ M) (hMx : M ≤ 900000000000) (hbw : base ≤ w.heap.size) :
    Calls Try.prog 33 #[.pointer (some ⟨B, 0, none⟩)] w fun e w' => e = .returned (.tuple #[]) ∧ GrowEnd w w' base B rv ow es.length M := by
  obtain ⟨i0, hi0, hz0, hz1, hz2⟩ := info_parts Try.infoByte
  obtain ⟨ro, rc, rfl⟩ := own_shape h.bk.own
  have HI : Hid (GrowRel w w base B (.slice ro es.length rc) ow es.length M 0 0) := ⟨⟨es, ow, h, rfl, fun j hj => Nat.le_trans (hM j hj) (Nat.le_add_right _ _), fun _ _ => rfl⟩, Kept.refl _ _⟩
  have HBW : Hid (base ≤ w.heap.size) := hbw
  have hmany := h.many
  generalize es.length = L at HI hmany ⊢
  clear h hM
  go_enter Try.func33, Try.ntmps33
  go_wp2
  go_loopw [2] (fun y wr => ∃ k : Nat, k ≤ L ∧ y = .int .i64 k ∧ Hid (GrowRel w wr base B (.slice ro L rc) ow L M k 0)) (fun y wr => L - (intOf y).toNat)
  case atStart => exact ⟨0, Nat.zero_le _, rfl, HI⟩
  case round =>
    clear HI
    obtain ⟨k, hk, rfl, HR⟩ := hrel
    have h0 : wr.cell? ⟨B, 0, none⟩ = some (.slice ro L rc) := by obtain ⟨es, ow2, hbs, _⟩ := HR.out.ex; exact hbs.bk.c0
    by_cases hlt : k < L
    · obtain ⟨rg, hro⟩ : ∃ rg, ro = some ⟨rg, 0, none⟩ := by
        obtain ⟨es, ow2, hbs, hlen, _⟩ := HR.out.ex
        obtain ⟨rg, h1, _⟩ := hbs.bk.at (k := k) (by rw [hlen]; exact hlt)
        exact ⟨rg, h1⟩
      subst hro
      by_cases hk64 : k < 64
      · go_wp2
        clear h0
        go_loopw [4] (fun y wr2 => ∃ i : Nat, i ≤ 64 ∧ y = .int .i64 i ∧ Hid (GrowRel w wr2 base B (.slice (some ⟨rg, 0, none⟩) L rc) ow L M k i)) (fun y wr => 64 - (intOf y).toNat)
        case atStart => exact ⟨0, Nat.zero_le _, rfl, HR⟩
        case round =>
          clear HR
          obtain ⟨i, hi, rfl, HR2⟩ := hrel
          by_cases hlt2 : i < 64
          · obtain ⟨es, ow2, hbs, hlen, hmm, hag⟩ := HR2.out.ex
            have hkl : k < es.length := by rw [hlen]; exact hlt
            obtain ⟨rg', hro', _, b1, b2⟩ := hbs.bk.at hkl
            cases hro'
            have hen := hbs.en k hkl
            have hmk := hmm k hlt
            have h0 := hbs.bk.c0
            have HST : Hid (∀ gg cap2 w2, World.ownsRow w2 base 5 1 (.slice (some ⟨gg, 0, none⟩) ((es.getD k en0).m + 1) cap2) ((es.getD k en0).m + 1) (bys (es.getD k en0).row ++ [.int .u8 (((es.getD k en0).mc.toNat : Int) + 1)]) → (wr.alloc (.cells #[.int .u8 (((es.getD k en0).mc.toNat : Int) + 1)] 5)).drew.grownBy w2 (Value.slice (es.getD k en0).go (es.getD k en0).m (es.getD k en0).gc).ownBlock → ((Value.slice (es.getD k en0).go (es.getD k en0).m (es.getD k en0).gc).ownBlock = some gg ∨ (gg = wr.heap.size + 1 ∧ (wr.alloc (.cells #[.int .u8 (((es.getD k en0).mc.toNat : Int) + 1)] 5)).drew.grownBy w2 none)) → GrowRel w (w2.setCell ⟨rg, k * 3 + 1, none⟩ (.slice (some ⟨gg, 0, none⟩) ((es.getD k en0).m + 1) cap2)) base B (.slice (some ⟨rg, 0, none⟩) L rc) ow L M k (i + 1)) := fun gg cap2 w2 a1 a2 a3 => HR2.out.step hbs hlen hmm hag hlt a1 a2 a3
            have HF : Hid (∀ w2, (wr.alloc (.cells #[.int .u8 (((es.getD k en0).mc.toNat : Int) + 1)] 5)).drew.grownBy w2 (Value.slice (es.getD k en0).go (es.getD k en0).m (es.getD k en0).gc).ownBlock → w2.frozen? ⟨rg, k * 3 + 1, none⟩ = false ∧ w2.cell? ⟨B, 0, none⟩ = some (.slice (some ⟨rg, 0, none⟩) L rc) ∧ w2.cell? ⟨rg, k * 3 + 2, none⟩ = some (.int .u8 (es.getD k en0).mc.toNat) ∧ ∃ u, w2.cell? ⟨rg, k * 3 + 1, none⟩ = some u) := fun w2 a2 => grow_facts hbs hkl a2
            have HOW : Hid (∀ ob, (wr.alloc ob).drew.ownsRow base 5 1 (.slice (es.getD k en0).go (es.getD k en0).m (es.getD k en0).gc) (es.getD k en0).m (bys (es.getD k en0).row)) := fun ob => Kept.nil_own hen.own (((Kept.refl [] wr).alloc ob).drew) (by simp)
            have hlow := hen.low
            have HBR : Hid (B ≠ rg) := fun e => hbs.bk.ne (by rw [e]; rfl)
            have HBS : Hid (base ≤ wr.heap.size) := Nat.le_trans HBW.out HR2.out.kept.size
            generalize es.getD k en0 = e at b1 b2 HST HF HOW hlow hmk
            obtain ⟨lo, n, lc, go, m, gc, mc⟩ := e
            simp only at b1 b2 HST HF HOW hlow hmk
            have hm : m ≤ 1000000000000 := by simp at hmk; omega
            have hw : IntKind.u8.wrap ((mc.toNat : Int) + 1) = (mc.toNat : Int) + 1 := by rw [IntKind.wrap_u8]; omega
            have hBl : B < wr.heap.size := World.block_lt_of_cell? _ _ h0
            have hrl : rg < wr.heap.size := World.block_lt_of_cell? _ _ b1
            have hBr : B ≠ rg := fun e => HBR.out e
            have k0 : (0 : Int) ≤ (k : Int) := by omega
            have k1 : (k : Int) < (L : Int) := by omega
            obtain ⟨ys, hys⟩ : ∃ ys, ys = (⟨lo, n, lc, go, m, gc, mc⟩ : En).row := ⟨_, rfl⟩
            rw [← hys] at HST HOW
            clear hbs hmm hag hen hmk HR2 hys hlen hkl
            go_wp2
            have HS : (fun w' : World => w'.cell? ⟨B, 0, none⟩ = some (.slice (some ⟨rg, 0, none⟩) L rc) ∧ w'.cell? ⟨rg, k * 3 + 2, none⟩ = some (.int .u8 mc.toNat)) wr.drew := ⟨by simpa using h0, by simpa using b2⟩
            have HS1 : ∀ ob, (fun w' : World => w'.cell? ⟨B, 0, none⟩ = some (.slice (some ⟨rg, 0, none⟩) L rc) ∧ w'.cell? ⟨rg, k * 3 + 2, none⟩ = some (.int .u8 mc.toNat)) (wr.alloc ob).drew := fun ob => ⟨((Kept.refl [] wr).alloc ob).drew.cellOf h0 (by simp), ((Kept.refl [] wr).alloc ob).drew.cellOf b2 (by simp)⟩
            refine wp_region_held (S := (fun w' : World => w'.cell? ⟨B, 0, none⟩ = some (.slice (some ⟨rg, 0, none⟩) L rc) ∧ w'.cell? ⟨rg, k * 3 + 2, none⟩ = some (.int .u8 mc.toNat))) Try.follows ?_
            rw [World.drew_eq]
            (refine wpAnyH_take (i := 0) (v := ?_) rfl (by kernel_rfl) (by kernel_rfl) (by kernel_rfl) (fun _ _ _ h => h) (Or.inl ⟨by rfl, ?_⟩) HS ?_; rotate_left; (intro w hSw; obtain ⟨s1, s2⟩ := hSw; go_simp; try (with_reducible rfl)); simp only [Act.put, List.getElem_toArray, List.getElem_cons_zero, List.getElem_cons_succ, List.setIfInBounds_toArray, List.set_cons_zero, List.set_cons_succ])
            (refine wpAnyH_take (i := 1) (v := ?_) rfl (by kernel_rfl) (by kernel_rfl) (by kernel_rfl) (fun _ _ _ h => h) (Or.inl ⟨by rfl, ?_⟩) HS ?_; rotate_left; (intro w hSw; obtain ⟨s1, s2⟩ := hSw; go_simp; try (with_reducible rfl)); simp only [Act.put, List.getElem_toArray, List.getElem_cons_zero, List.getElem_cons_succ, List.setIfInBounds_toArray, List.set_cons_zero, List.set_cons_succ])
            (refine wpAnyH_take (i := 2) (v := ?_) rfl (by kernel_rfl) (by kernel_rfl) (by kernel_rfl) (fun _ _ _ h => h) (Or.inl ⟨by rfl, ?_⟩) HS ?_; rotate_left; (intro w hSw; obtain ⟨s1, s2⟩ := hSw; go_simp; try (with_reducible rfl)); simp only [Act.put, List.getElem_toArray, List.getElem_cons_zero, List.getElem_cons_succ, List.setIfInBounds_toArray, List.set_cons_zero, List.set_cons_succ])
            (refine wpAnyH_take (i := 3) (v := ?_) rfl (by kernel_rfl) (by kernel_rfl) (by kernel_rfl) (fun _ _ _ h => h) (Or.inl ⟨by rfl, ?_⟩) HS ?_; rotate_left; (intro w hSw; obtain ⟨s1, s2⟩ := hSw; go_simp; try (with_reducible rfl)); simp only [Act.put, List.getElem_toArray, List.getElem_cons_zero, List.getElem_cons_succ, List.setIfInBounds_toArray, List.set_cons_zero, List.set_cons_succ])
            (refine wpAnyH_take (i := 4) (v := ?_) rfl (by kernel_rfl) (by kernel_rfl) (by kernel_rfl) (fun _ _ _ h => h) (Or.inl ⟨by rfl, ?_⟩) HS ?_; rotate_left; (intro w hSw; obtain ⟨s1, s2⟩ := hSw; go_simp; try (with_reducible rfl)); simp only [Act.put, List.getElem_toArray, List.getElem_cons_zero, List.getElem_cons_succ, List.setIfInBounds_toArray, List.set_cons_zero, List.set_cons_succ])
            (refine wpAnyH_take (i := 5) (v := ?_) rfl (by kernel_rfl) (by kernel_rfl) (by kernel_rfl) (fun _ _ _ h => h) (Or.inl ⟨by rfl, ?_⟩) HS ?_; rotate_left; (intro w hSw; obtain ⟨s1, s2⟩ := hSw; go_simp; try (with_reducible rfl)); simp only [Act.put, List.getElem_toArray, List.getElem_cons_zero, List.getElem_cons_succ, List.setIfInBounds_toArray, List.set_cons_zero, List.set_cons_succ])
            (refine wpAnyH_take (i := 6) (v := ?_) rfl (by kernel_rfl) (by kernel_rfl) (by kernel_rfl) (fun _ _ _ h => h) (Or.inl ⟨by rfl, ?_⟩) HS ?_; rotate_left; (intro w hSw; obtain ⟨s1, s2⟩ := hSw; go_simp; try (with_reducible rfl)); simp only [Act.put, List.getElem_toArray, List.getElem_cons_zero, List.getElem_cons_succ, List.setIfInBounds_toArray, List.set_cons_zero, List.set_cons_succ])
            (refine wpAnyH_take (i := 7) (v := ?_) rfl (by kernel_rfl) (by kernel_rfl) (by kernel_rfl) (fun _ _ _ h => h) (Or.inl ⟨by rfl, ?_⟩) HS ?_; rotate_left; (intro w hSw; obtain ⟨s1, s2⟩ := hSw; go_simp; try (with_reducible rfl)); simp only [Act.put, List.getElem_toArray, List.getElem_cons_zero, List.getElem_cons_succ, List.setIfInBounds_toArray, List.set_cons_zero, List.set_cons_succ])
            (refine wpAnyH_take (i := 8) (v := ?_) rfl (by kernel_rfl) (by kernel_rfl) (by kernel_rfl) (fun _ _ _ h => h) (Or.inl ⟨by rfl, ?_⟩) HS ?_; rotate_left; (intro w hSw; obtain ⟨s1, s2⟩ := hSw; go_simp; try (with_reducible rfl)); simp only [Act.put, List.getElem_toArray, List.getElem_cons_zero, List.getElem_cons_succ, List.setIfInBounds_toArray, List.set_cons_zero, List.set_cons_succ])
            (refine wpAnyH_take (i := 9) (v := ?_) rfl (by kernel_rfl) (by kernel_rfl) (by kernel_rfl) (fun _ _ _ h => h) (Or.inl ⟨by rfl, ?_⟩) HS ?_; rotate_left; (intro w hSw; obtain ⟨s1, s2⟩ := hSw; go_simp; try (with_reducible rfl)); simp only [Act.put, List.getElem_toArray, List.getElem_cons_zero, List.getElem_cons_succ, List.setIfInBounds_toArray, List.set_cons_zero, List.set_cons_succ])
            (refine wpAnyH_take (i := 10) (v := ?_) rfl (by kernel_rfl) (by kernel_rfl) (by kernel_rfl) (fun _ _ _ h => h) (Or.inl ⟨by rfl, ?_⟩) HS ?_; rotate_left; (intro w hSw; obtain ⟨s1, s2⟩ := hSw; go_simp; try (with_reducible rfl)); simp only [Act.put, List.getElem_toArray, List.getElem_cons_zero, List.getElem_cons_succ, List.setIfInBounds_toArray, List.set_cons_zero, List.set_cons_succ])
            (refine wpAnyH_take (i := 11) (v := ?_) rfl (by kernel_rfl) (by kernel_rfl) (by kernel_rfl) (fun _ _ _ h => h) (Or.inl ⟨by rfl, ?_⟩) HS ?_; rotate_left; (intro w hSw; obtain ⟨s1, s2⟩ := hSw; go_simp; try (with_reducible rfl)); simp only [Act.put, List.getElem_toArray, List.getElem_cons_zero, List.getElem_cons_succ, List.setIfInBounds_toArray, List.set_cons_zero, List.set_cons_succ])
            (refine wpAnyH_take (i := 13) (v := ?_) rfl (by kernel_rfl) (by kernel_rfl) (by kernel_rfl) (fun _ _ _ h => h) (Or.inl ⟨by rfl, ?_⟩) HS ?_; rotate_left; (intro w hSw; obtain ⟨s1, s2⟩ := hSw; go_simp; try (with_reducible rfl)); simp only [Act.put, List.getElem_toArray, List.getElem_cons_zero, List.getElem_cons_succ, List.setIfInBounds_toArray, List.set_cons_zero, List.set_cons_succ])
            (refine wpAnyH_take (i := 14) (v := ?_) rfl (by kernel_rfl) (by kernel_rfl) (by kernel_rfl) (fun _ _ _ h => h) (Or.inl ⟨by rfl, ?_⟩) HS ?_; rotate_left; (intro w hSw; obtain ⟨s1, s2⟩ := hSw; go_simp; try (with_reducible rfl)); simp only [Act.put, List.getElem_toArray, List.getElem_cons_zero, List.getElem_cons_succ, List.setIfInBounds_toArray, List.set_cons_zero, List.set_cons_succ])
            (refine wpAnyH_take (i := 15) (v := ?_) rfl (by kernel_rfl) (by kernel_rfl) (by kernel_rfl) (fun _ _ _ h => h) (Or.inl ⟨by rfl, ?_⟩) HS ?_; rotate_left; (intro w hSw; obtain ⟨s1, s2⟩ := hSw; go_simp; try (with_reducible rfl)); simp only [Act.put, List.getElem_toArray, List.getElem_cons_zero, List.getElem_cons_succ, List.setIfInBounds_toArray, List.set_cons_zero, List.set_cons_succ])
            (refine wpAnyH_take (i := 16) (v := ?_) rfl (by kernel_rfl) (by kernel_rfl) (by kernel_rfl) (fun _ _ _ h => h) (Or.inl ⟨by rfl, ?_⟩) HS ?_; rotate_left; (intro w hSw; obtain ⟨s1, s2⟩ := hSw; go_simp; try (with_reducible rfl)); simp only [Act.put, List.getElem_toArray, List.getElem_cons_zero, List.getElem_cons_succ, List.setIfInBounds_toArray, List.set_cons_zero, List.set_cons_succ])
            (refine wpAnyH_take (i := 17) (v := ?_) rfl (by kernel_rfl) (by kernel_rfl) (by kernel_rfl) (fun _ _ _ h => h) (Or.inl ⟨by rfl, ?_⟩) HS ?_; rotate_left; (intro w hSw; obtain ⟨s1, s2⟩ := hSw; go_simp; try (with_reducible rfl)); simp only [Act.put, List.getElem_toArray, List.getElem_cons_zero, List.getElem_cons_succ, List.setIfInBounds_toArray, List.set_cons_zero, List.set_cons_succ])
            (refine wpAnyH_take (i := 18) (v := ?_) rfl (by kernel_rfl) (by kernel_rfl) (by kernel_rfl) (fun _ _ _ h => h) (Or.inl ⟨by rfl, ?_⟩) HS ?_; rotate_left; (intro w hSw; obtain ⟨s1, s2⟩ := hSw; go_simp; try (with_reducible rfl)); simp only [Act.put, List.getElem_toArray, List.getElem_cons_zero, List.getElem_cons_succ, List.setIfInBounds_toArray, List.set_cons_zero, List.set_cons_succ])
            (refine wpAnyH_take (i := 19) (v := ?_) rfl (by kernel_rfl) (by kernel_rfl) (by kernel_rfl) (fun _ _ _ h => h) (Or.inl ⟨by rfl, ?_⟩) HS ?_; rotate_left; (intro w hSw; obtain ⟨s1, s2⟩ := hSw; go_simp; try (with_reducible rfl)); simp only [Act.put, List.getElem_toArray, List.getElem_cons_zero, List.getElem_cons_succ, List.setIfInBounds_toArray, List.set_cons_zero, List.set_cons_succ])
            (refine wpAnyH_take (i := 20) (v := ?_) rfl (by kernel_rfl) (by kernel_rfl) (by kernel_rfl) (fun _ _ _ h => h) (Or.inl ⟨by rfl, ?_⟩) HS ?_; rotate_left; (intro w hSw; obtain ⟨s1, s2⟩ := hSw; go_simp; try (with_reducible rfl)); simp only [Act.put, List.getElem_toArray, List.getElem_cons_zero, List.getElem_cons_succ, List.setIfInBounds_toArray, List.set_cons_zero, List.set_cons_succ])
            (refine wpAnyH_take (i := 21) (v := ?_) rfl (by kernel_rfl) (by kernel_rfl) (by kernel_rfl) (fun _ _ _ h => h) (Or.inl ⟨by rfl, ?_⟩) HS ?_; rotate_left; (intro w hSw; obtain ⟨s1, s2⟩ := hSw; go_simp; try (with_reducible rfl)); simp only [Act.put, List.getElem_toArray, List.getElem_cons_zero, List.getElem_cons_succ, List.setIfInBounds_toArray, List.set_cons_zero, List.set_cons_succ])
            refine wpAnyH_all (rs := [12, 22]) (by kernel_rfl) (by decide) (fun j hj => ?_)
            have hj2 : j = 12 ∨ j = 22 := by simpa using hj
            clear hj
            rcases hj2 with rfl | rfl
            · (refine wpOp_step rfl (fun K hK => ?_); rw [if_pos (by simp [Region.wanted])]; go_simp; refine hK _ _ ⟨HS, ?_⟩; clear hK K; try simp only [Act.put, List.getElem_toArray, List.getElem_cons_zero, List.getElem_cons_succ, List.setIfInBounds_toArray, List.set_cons_zero, List.set_cons_succ])
              (refine wpAnyH_all (rs := [22]) (by kernel_rfl) (by decide) (fun j hj => ?_); obtain rfl : j = 22 := (by simpa using hj); clear hj; refine wpOp_step rfl (fun K hK => ?_); rw [if_pos (by simp [Region.wanted])]; go_simp; refine hK _ _ ⟨HS1 _, ?_⟩; clear hK K; try simp only [Act.put, List.getElem_toArray, List.getElem_cons_zero, List.getElem_cons_succ, List.setIfInBounds_toArray, List.set_cons_zero, List.set_cons_succ])
              (refine wpAnyH_all (rs := [23]) (by kernel_rfl) (by decide) (fun j hj => ?_); obtain rfl : j = 23 := (by simpa using hj); clear hj; refine wpOp_step rfl (fun K hK => ?_); refine step_append_keep _ (by rfl) _ _ _ (by rfl) base 5 i0 _ 1 1 Try.underlying32 hi0 hz0 hz1 hz2 rfl (by decide) (.slice go m gc) m (bys ys) (by rfl) (HOW.out _) ⟨wr.heap.size, 0, none⟩ 1 1 [.int .u8 ((mc.toNat : Int) + 1)] (by rfl) (by rfl) (World.news_of_block (cs := #[.int .u8 ((mc.toNat : Int) + 1)]) (t := 5) (fr := (0, 0)) (heap_alloc_new wr _)) (by simp [Value.oneCell']) (by omega) (by unfold maxLen; omega) (by omega) (by have := HBS.out; simp; omega) (wr.heap.size + 1) (by simp) ?_; intro gg cap2 w2 hown2 hgrow hat; obtain ⟨hf2, hB2, hm2, u, hc2⟩ := HF.out w2 hgrow; have HE := (show Hid _ from HST.out gg cap2 w2 hown2 hgrow hat); clear hown2 hgrow hat; refine hK _ _ ⟨⟨hB2, hm2⟩, ?_⟩; clear hK K; try simp only [Act.put, List.getElem_toArray, List.getElem_cons_zero, List.getElem_cons_succ, List.setIfInBounds_toArray, List.set_cons_zero, List.set_cons_succ])
              (refine wpAnyH_take (i := 24) (v := ?_) rfl (by kernel_rfl) (by kernel_rfl) (by kernel_rfl) (fun _ _ _ h => h) (Or.inl ⟨by rfl, ?_⟩) ⟨hB2, hm2⟩ ?_; rotate_left; (intro w hSw; obtain ⟨s1, s2⟩ := hSw; go_simp; try (with_reducible rfl)); simp only [Act.put, List.getElem_toArray, List.getElem_cons_zero, List.getElem_cons_succ, List.setIfInBounds_toArray, List.set_cons_zero, List.set_cons_succ])
              (refine wpAnyH_take (i := 25) (v := ?_) rfl (by kernel_rfl) (by kernel_rfl) (by kernel_rfl) (fun _ _ _ h => h) (Or.inl ⟨by rfl, ?_⟩) ⟨hB2, hm2⟩ ?_; rotate_left; (intro w hSw; obtain ⟨s1, s2⟩ := hSw; go_simp; try (with_reducible rfl)); simp only [Act.put, List.getElem_toArray, List.getElem_cons_zero, List.getElem_cons_succ, List.setIfInBounds_toArray, List.set_cons_zero, List.set_cons_succ])
              (refine wpAnyH_all (rs := [26]) (by kernel_rfl) (by decide) (fun j hj => ?_); obtain rfl : j = 26 := (by simpa using hj); clear hj; refine wpOp_step rfl (fun K hK => ?_); rw [if_pos (by simp [Region.wanted])]; go_simp; refine hK _ _ ⟨⟨by rw [World.cell?_setCell_other _ _ _ _ (by simp)]; exact hB2, by rw [World.cell?_setCell_other _ _ _ _ (by simp)]; exact hm2⟩, ?_⟩; clear hK K; try simp only [Act.put, List.getElem_toArray, List.getElem_cons_zero, List.getElem_cons_succ, List.setIfInBounds_toArray, List.set_cons_zero, List.set_cons_succ])
              refine wpAnyH_done (by kernel_rfl) ?_ _
              go_wp2
              go_roundw
              case rel => exact ⟨i + 1, by omega, by go_num, HE⟩
              case measure => simp [intOf]; omega
            · (refine wpOp_step rfl (fun K hK => ?_); rw [if_pos (by simp [Region.wanted])]; go_simp; refine hK _ _ ⟨HS1 _, ?_⟩; clear hK K; try simp only [Act.put, List.getElem_toArray, List.getElem_cons_zero, List.getElem_cons_succ, List.setIfInBounds_toArray, List.set_cons_zero, List.set_cons_succ])
              (refine wpAnyH_all (rs := [12]) (by kernel_rfl) (by decide) (fun j hj => ?_); obtain rfl : j = 12 := (by simpa using hj); clear hj; refine wpOp_step rfl (fun K hK => ?_); rw [if_pos (by simp [Region.wanted])]; go_simp; refine hK _ _ ⟨HS1 _, ?_⟩; clear hK K; try simp only [Act.put, List.getElem_toArray, List.getElem_cons_zero, List.getElem_cons_succ, List.setIfInBounds_toArray, List.set_cons_zero, List.set_cons_succ])
              (refine wpAnyH_all (rs := [23]) (by kernel_rfl) (by decide) (fun j hj => ?_); obtain rfl : j = 23 := (by simpa using hj); clear hj; refine wpOp_step rfl (fun K hK => ?_); refine step_append_keep _ (by rfl) _ _ _ (by rfl) base 5 i0 _ 1 1 Try.underlying32 hi0 hz0 hz1 hz2 rfl (by decide) (.slice go m gc) m (bys ys) (by rfl) (HOW.out _) ⟨wr.heap.size, 0, none⟩ 1 1 [.int .u8 ((mc.toNat : Int) + 1)] (by rfl) (by rfl) (World.news_of_block (cs := #[.int .u8 ((mc.toNat : Int) + 1)]) (t := 5) (fr := (0, 0)) (heap_alloc_new wr _)) (by simp [Value.oneCell']) (by omega) (by unfold maxLen; omega) (by omega) (by have := HBS.out; simp; omega) (wr.heap.size + 1) (by simp) ?_; intro gg cap2 w2 hown2 hgrow hat; obtain ⟨hf2, hB2, hm2, u, hc2⟩ := HF.out w2 hgrow; have HE := (show Hid _ from HST.out gg cap2 w2 hown2 hgrow hat); clear hown2 hgrow hat; refine hK _ _ ⟨⟨hB2, hm2⟩, ?_⟩; clear hK K; try simp only [Act.put, List.getElem_toArray, List.getElem_cons_zero, List.getElem_cons_succ, List.setIfInBounds_toArray, List.set_cons_zero, List.set_cons_succ])
              (refine wpAnyH_take (i := 24) (v := ?_) rfl (by kernel_rfl) (by kernel_rfl) (by kernel_rfl) (fun _ _ _ h => h) (Or.inl ⟨by rfl, ?_⟩) ⟨hB2, hm2⟩ ?_; rotate_left; (intro w hSw; obtain ⟨s1, s2⟩ := hSw; go_simp; try (with_reducible rfl)); simp only [Act.put, List.getElem_toArray, List.getElem_cons_zero, List.getElem_cons_succ, List.setIfInBounds_toArray, List.set_cons_zero, List.set_cons_succ])
              (refine wpAnyH_take (i := 25) (v := ?_) rfl (by kernel_rfl) (by kernel_rfl) (by kernel_rfl) (fun _ _ _ h => h) (Or.inl ⟨by rfl, ?_⟩) ⟨hB2, hm2⟩ ?_; rotate_left; (intro w hSw; obtain ⟨s1, s2⟩ := hSw; go_simp; try (with_reducible rfl)); simp only [Act.put, List.getElem_toArray, List.getElem_cons_zero, List.getElem_cons_succ, List.setIfInBounds_toArray, List.set_cons_zero, List.set_cons_succ])
              (refine wpAnyH_all (rs := [26]) (by kernel_rfl) (by decide) (fun j hj => ?_); obtain rfl : j = 26 := (by simpa using hj); clear hj; refine wpOp_step rfl (fun K hK => ?_); rw [if_pos (by simp [Region.wanted])]; go_simp; refine hK _ _ ⟨⟨by rw [World.cell?_setCell_other _ _ _ _ (by simp)]; exact hB2, by rw [World.cell?_setCell_other _ _ _ _ (by simp)]; exact hm2⟩, ?_⟩; clear hK K; try simp only [Act.put, List.getElem_toArray, List.getElem_cons_zero, List.getElem_cons_succ, List.setIfInBounds_toArray, List.set_cons_zero, List.set_cons_succ])
              refine wpAnyH_done (by kernel_rfl) ?_ _
              go_wp2
              go_roundw
              case rel => exact ⟨i + 1, by omega, by go_num, HE⟩
              case measure => simp [intOf]; omega
          · obtain rfl : i = 64 := by omega
            have HR3 : Hid (GrowRel w wr base B (.slice (some ⟨rg, 0, none⟩) L rc) ow L M (k + 1) 0) := HR2.out.next (by omega)
            clear HR2
            go_wp2
            go_roundw
            case rel => exact ⟨k + 1, by omega, by go_num, HR3⟩
            case measure => simp [intOf]; omega
      · go_wp2
        clear h0
        go_loopw [4] (fun y wr2 => ∃ i : Nat, i ≤ 2 ∧ y = .int .i64 i ∧ Hid (GrowRel w wr2 base B (.slice (some ⟨rg, 0, none⟩) L rc) ow L M k i)) (fun y wr => 2 - (intOf y).toNat)
        case atStart => exact ⟨0, Nat.zero_le _, rfl, HR⟩
        case round =>
          clear HR
          obtain ⟨i, hi, rfl, HR2⟩ := hrel
          by_cases hlt2 : i < 2
          · obtain ⟨es, ow2, hbs, hlen, hmm, hag⟩ := HR2.out.ex
            have hkl : k < es.length := by rw [hlen]; exact hlt
            obtain ⟨rg', hro', _, b1, b2⟩ := hbs.bk.at hkl
            cases hro'
            have hen := hbs.en k hkl
            have hmk := hmm k hlt
            have h0 := hbs.bk.c0
            have HST : Hid (∀ gg cap2 w2, World.ownsRow w2 base 5 1 (.slice (some ⟨gg, 0, none⟩) ((es.getD k en0).m + 1) cap2) ((es.getD k en0).m + 1) (bys (es.getD k en0).row ++ [.int .u8 (((es.getD k en0).mc.toNat : Int) + 1)]) → (wr.alloc (.cells #[.int .u8 (((es.getD k en0).mc.toNat : Int) + 1)] 5)).drew.grownBy w2 (Value.slice (es.getD k en0).go (es.getD k en0).m (es.getD k en0).gc).ownBlock → ((Value.slice (es.getD k en0).go (es.getD k en0).m (es.getD k en0).gc).ownBlock = some gg ∨ (gg = wr.heap.size + 1 ∧ (wr.alloc (.cells #[.int .u8 (((es.getD k en0).mc.toNat : Int) + 1)] 5)).drew.grownBy w2 none)) → GrowRel w (w2.setCell ⟨rg, k * 3 + 1, none⟩ (.slice (some ⟨gg, 0, none⟩) ((es.getD k en0).m + 1) cap2)) base B (.slice (some ⟨rg, 0, none⟩) L rc) ow L M k (i + 1)) := fun gg cap2 w2 a1 a2 a3 => HR2.out.step hbs hlen hmm hag hlt a1 a2 a3
            have HF : Hid (∀ w2, (wr.alloc (.cells #[.int .u8 (((es.getD k en0).mc.toNat : Int) + 1)] 5)).drew.grownBy w2 (Value.slice (es.getD k en0).go (es.getD k en0).m (es.getD k en0).gc).ownBlock → w2.frozen? ⟨rg, k * 3 + 1, none⟩ = false ∧ w2.cell? ⟨B, 0, none⟩ = some (.slice (some ⟨rg, 0, none⟩) L rc) ∧ w2.cell? ⟨rg, k * 3 + 2, none⟩ = some (.int .u8 (es.getD k en0).mc.toNat) ∧ ∃ u, w2.cell? ⟨rg, k * 3 + 1, none⟩ = some u) := fun w2 a2 => grow_facts hbs hkl a2
            have HOW : Hid (∀ ob, (wr.alloc ob).drew.ownsRow base 5 1 (.slice (es.getD k en0).go (es.getD k en0).m (es.getD k en0).gc) (es.getD k en0).m (bys (es.getD k en0).row)) := fun ob => Kept.nil_own hen.own (((Kept.refl [] wr).alloc ob).drew) (by simp)
            have hlow := hen.low
            have HBR : Hid (B ≠ rg) := fun e => hbs.bk.ne (by rw [e]; rfl)
            have HBS : Hid (base ≤ wr.heap.size) := Nat.le_trans HBW.out HR2.out.kept.size
            generalize es.getD k en0 = e at b1 b2 HST HF HOW hlow hmk
            obtain ⟨lo, n, lc, go, m, gc, mc⟩ := e
            simp only at b1 b2 HST HF HOW hlow hmk
            have hm : m ≤ 1000000000000 := by simp at hmk; omega
            have hw : IntKind.u8.wrap ((mc.toNat : Int) + 1) = (mc.toNat : Int) + 1 := by rw [IntKind.wrap_u8]; omega
            have hBl : B < wr.heap.size := World.block_lt_of_cell? _ _ h0
            have hrl : rg < wr.heap.size := World.block_lt_of_cell? _ _ b1
            have hBr : B ≠ rg := fun e => HBR.out e
            have k0 : (0 : Int) ≤ (k : Int) := by omega
            have k1 : (k : Int) < (L : Int) := by omega
            obtain ⟨ys, hys⟩ : ∃ ys, ys = (⟨lo, n, lc, go, m, gc, mc⟩ : En).row := ⟨_, rfl⟩
            rw [← hys] at HST HOW
            clear hbs hmm hag hen hmk HR2 hys hlen hkl
            go_wp2
            have HS : (fun w' : World => w'.cell? ⟨B, 0, none⟩ = some (.slice (some ⟨rg, 0, none⟩) L rc) ∧ w'.cell? ⟨rg, k * 3 + 2, none⟩ = some (.int .u8 mc.toNat)) wr.drew := ⟨by simpa using h0, by simpa using b2⟩
            have HS1 : ∀ ob, (fun w' : World => w'.cell? ⟨B, 0, none⟩ = some (.slice (some ⟨rg, 0, none⟩) L rc) ∧ w'.cell? ⟨rg, k * 3 + 2, none⟩ = some (.int .u8 mc.toNat)) (wr.alloc ob).drew := fun ob => ⟨((Kept.refl [] wr).alloc ob).drew.cellOf h0 (by simp), ((Kept.refl [] wr).alloc ob).drew.cellOf b2 (by simp)⟩
            refine wp_region_held (S := (fun w' : World => w'.cell? ⟨B, 0, none⟩ = some (.slice (some ⟨rg, 0, none⟩) L rc) ∧ w'.cell? ⟨rg, k * 3 + 2, none⟩ = some (.int .u8 mc.toNat))) Try.follows ?_
            rw [World.drew_eq]
            (refine wpAnyH_take (i := 0) (v := ?_) rfl (by kernel_rfl) (by kernel_rfl) (by kernel_rfl) (fun _ _ _ h => h) (Or.inl ⟨by rfl, ?_⟩) HS ?_; rotate_left; (intro w hSw; obtain ⟨s1, s2⟩ := hSw; go_simp; try (with_reducible rfl)); simp only [Act.put, List.getElem_toArray, List.getElem_cons_zero, List.getElem_cons_succ, List.setIfInBounds_toArray, List.set_cons_zero, List.set_cons_succ])
            (refine wpAnyH_take (i := 1) (v := ?_) rfl (by kernel_rfl) (by kernel_rfl) (by kernel_rfl) (fun _ _ _ h => h) (Or.inl ⟨by rfl, ?_⟩) HS ?_; rotate_left; (intro w hSw; obtain ⟨s1, s2⟩ := hSw; go_simp; try (with_reducible rfl)); simp only [Act.put, List.getElem_toArray, List.getElem_cons_zero, List.getElem_cons_succ, List.setIfInBounds_toArray, List.set_cons_zero, List.set_cons_succ])
            (refine wpAnyH_take (i := 2) (v := ?_) rfl (by kernel_rfl) (by kernel_rfl) (by kernel_rfl) (fun _ _ _ h => h) (Or.inl ⟨by rfl, ?_⟩) HS ?_; rotate_left; (intro w hSw; obtain ⟨s1, s2⟩ := hSw; go_simp; try (with_reducible rfl)); simp only [Act.put, List.getElem_toArray, List.getElem_cons_zero, List.getElem_cons_succ, List.setIfInBounds_toArray, List.set_cons_zero, List.set_cons_succ])
            (refine wpAnyH_take (i := 3) (v := ?_) rfl (by kernel_rfl) (by kernel_rfl) (by kernel_rfl) (fun _ _ _ h => h) (Or.inl ⟨by rfl, ?_⟩) HS ?_; rotate_left; (intro w hSw; obtain ⟨s1, s2⟩ := hSw; go_simp; try (with_reducible rfl)); simp only [Act.put, List.getElem_toArray, List.getElem_cons_zero, List.getElem_cons_succ, List.setIfInBounds_toArray, List.set_cons_zero, List.set_cons_succ])
            (refine wpAnyH_take (i := 4) (v := ?_) rfl (by kernel_rfl) (by kernel_rfl) (by kernel_rfl) (fun _ _ _ h => h) (Or.inl ⟨by rfl, ?_⟩) HS ?_; rotate_left; (intro w hSw; obtain ⟨s1, s2⟩ := hSw; go_simp; try (with_reducible rfl)); simp only [Act.put, List.getElem_toArray, List.getElem_cons_zero, List.getElem_cons_succ, List.setIfInBounds_toArray, List.set_cons_zero, List.set_cons_succ])
            (refine wpAnyH_take (i := 5) (v := ?_) rfl (by kernel_rfl) (by kernel_rfl) (by kernel_rfl) (fun _ _ _ h => h) (Or.inl ⟨by rfl, ?_⟩) HS ?_; rotate_left; (intro w hSw; obtain ⟨s1, s2⟩ := hSw; go_simp; try (with_reducible rfl)); simp only [Act.put, List.getElem_toArray, List.getElem_cons_zero, List.getElem_cons_succ, List.setIfInBounds_toArray, List.set_cons_zero, List.set_cons_succ])
            (refine wpAnyH_take (i := 6) (v := ?_) rfl (by kernel_rfl) (by kernel_rfl) (by kernel_rfl) (fun _ _ _ h => h) (Or.inl ⟨by rfl, ?_⟩) HS ?_; rotate_left; (intro w hSw; obtain ⟨s1, s2⟩ := hSw; go_simp; try (with_reducible rfl)); simp only [Act.put, List.getElem_toArray, List.getElem_cons_zero, List.getElem_cons_succ, List.setIfInBounds_toArray, List.set_cons_zero, List.set_cons_succ])
            (refine wpAnyH_take (i := 7) (v := ?_) rfl (by kernel_rfl) (by kernel_rfl) (by kernel_rfl) (fun _ _ _ h => h) (Or.inl ⟨by rfl, ?_⟩) HS ?_; rotate_left; (intro w hSw; obtain ⟨s1, s2⟩ := hSw; go_simp; try (with_reducible rfl)); simp only [Act.put, List.getElem_toArray, List.getElem_cons_zero, List.getElem_cons_succ, List.setIfInBounds_toArray, List.set_cons_zero, List.set_cons_succ])
            (refine wpAnyH_take (i := 8) (v := ?_) rfl (by kernel_rfl) (by kernel_rfl) (by kernel_rfl) (fun _ _ _ h => h) (Or.inl ⟨by rfl, ?_⟩) HS ?_; rotate_left; (intro w hSw; obtain ⟨s1, s2⟩ := hSw; go_simp; try (with_reducible rfl)); simp only [Act.put, List.getElem_toArray, List.getElem_cons_zero, List.getElem_cons_succ, List.setIfInBounds_toArray, List.set_cons_zero, List.set_cons_succ])
            (refine wpAnyH_take (i := 9) (v := ?_) rfl (by kernel_rfl) (by kernel_rfl) (by kernel_rfl) (fun _ _ _ h => h) (Or.inl ⟨by rfl, ?_⟩) HS ?_; rotate_left; (intro w hSw; obtain ⟨s1, s2⟩ := hSw; go_simp; try (with_reducible rfl)); simp only [Act.put, List.getElem_toArray, List.getElem_cons_zero, List.getElem_cons_succ, List.setIfInBounds_toArray, List.set_cons_zero, List.set_cons_succ])
            (refine wpAnyH_take (i := 10) (v := ?_) rfl (by kernel_rfl) (by kernel_rfl) (by kernel_rfl) (fun _ _ _ h => h) (Or.inl ⟨by rfl, ?_⟩) HS ?_; rotate_left; (intro w hSw; obtain ⟨s1, s2⟩ := hSw; go_simp; try (with_reducible rfl)); simp only [Act.put, List.getElem_toArray, List.getElem_cons_zero, List.getElem_cons_succ, List.setIfInBounds_toArray, List.set_cons_zero, List.set_cons_succ])
            (refine wpAnyH_take (i := 11) (v := ?_) rfl (by kernel_rfl) (by kernel_rfl) (by kernel_rfl) (fun _ _ _ h => h) (Or.inl ⟨by rfl, ?_⟩) HS ?_; rotate_left; (intro w hSw; obtain ⟨s1, s2⟩ := hSw; go_simp; try (with_reducible rfl)); simp only [Act.put, List.getElem_toArray, List.getElem_cons_zero, List.getElem_cons_succ, List.setIfInBounds_toArray, List.set_cons_zero, List.set_cons_succ])
            (refine wpAnyH_take (i := 13) (v := ?_) rfl (by kernel_rfl) (by kernel_rfl) (by kernel_rfl) (fun _ _ _ h => h) (Or.inl ⟨by rfl, ?_⟩) HS ?_; rotate_left; (intro w hSw; obtain ⟨s1, s2⟩ := hSw; go_simp; try (with_reducible rfl)); simp only [Act.put, List.getElem_toArray, List.getElem_cons_zero, List.getElem_cons_succ, List.setIfInBounds_toArray, List.set_cons_zero, List.set_cons_succ])
            (refine wpAnyH_take (i := 14) (v := ?_) rfl (by kernel_rfl) (by kernel_rfl) (by kernel_rfl) (fun _ _ _ h => h) (Or.inl ⟨by rfl, ?_⟩) HS ?_; rotate_left; (intro w hSw; obtain ⟨s1, s2⟩ := hSw; go_simp; try (with_reducible rfl)); simp only [Act.put, List.getElem_toArray, List.getElem_cons_zero, List.getElem_cons_succ, List.setIfInBounds_toArray, List.set_cons_zero, List.set_cons_succ])
            (refine wpAnyH_take (i := 15) (v := ?_) rfl (by kernel_rfl) (by kernel_rfl) (by kernel_rfl) (fun _ _ _ h => h) (Or.inl ⟨by rfl, ?_⟩) HS ?_; rotate_left; (intro w hSw; obtain ⟨s1, s2⟩ := hSw; go_simp; try (with_reducible rfl)); simp only [Act.put, List.getElem_toArray, List.getElem_cons_zero, List.getElem_cons_succ, List.setIfInBounds_toArray, List.set_cons_zero, List.set_cons_succ])
            (refine wpAnyH_take (i := 16) (v := ?_) rfl (by kernel_rfl) (by kernel_rfl) (by kernel_rfl) (fun _ _ _ h => h) (Or.inl ⟨by rfl, ?_⟩) HS ?_; rotate_left; (intro w hSw; obtain ⟨s1, s2⟩ := hSw; go_simp; try (with_reducible rfl)); simp only [Act.put, List.getElem_toArray, List.getElem_cons_zero, List.getElem_cons_succ, List.setIfInBounds_toArray, List.set_cons_zero, List.set_cons_succ])
            (refine wpAnyH_take (i := 17) (v := ?_) rfl (by kernel_rfl) (by kernel_rfl) (by kernel_rfl) (fun _ _ _ h => h) (Or.inl ⟨by rfl, ?_⟩) HS ?_; rotate_left; (intro w hSw; obtain ⟨s1, s2⟩ := hSw; go_simp; try (with_reducible rfl)); simp only [Act.put, List.getElem_toArray, List.getElem_cons_zero, List.getElem_cons_succ, List.setIfInBounds_toArray, List.set_cons_zero, List.set_cons_succ])
            (refine wpAnyH_take (i := 18) (v := ?_) rfl (by kernel_rfl) (by kernel_rfl) (by kernel_rfl) (fun _ _ _ h => h) (Or.inl ⟨by rfl, ?_⟩) HS ?_; rotate_left; (intro w hSw; obtain ⟨s1, s2⟩ := hSw; go_simp; try (with_reducible rfl)); simp only [Act.put, List.getElem_toArray, List.getElem_cons_zero, List.getElem_cons_succ, List.setIfInBounds_toArray, List.set_cons_zero, List.set_cons_succ])
            (refine wpAnyH_take (i := 19) (v := ?_) rfl (by kernel_rfl) (by kernel_rfl) (by kernel_rfl) (fun _ _ _ h => h) (Or.inl ⟨by rfl, ?_⟩) HS ?_; rotate_left; (intro w hSw; obtain ⟨s1, s2⟩ := hSw; go_simp; try (with_reducible rfl)); simp only [Act.put, List.getElem_toArray, List.getElem_cons_zero, List.getElem_cons_succ, List.setIfInBounds_toArray, List.set_cons_zero, List.set_cons_succ])
            (refine wpAnyH_take (i := 20) (v := ?_) rfl (by kernel_rfl) (by kernel_rfl) (by kernel_rfl) (fun _ _ _ h => h) (Or.inl ⟨by rfl, ?_⟩) HS ?_; rotate_left; (intro w hSw; obtain ⟨s1, s2⟩ := hSw; go_simp; try (with_reducible rfl)); simp only [Act.put, List.getElem_toArray, List.getElem_cons_zero, List.getElem_cons_succ, List.setIfInBounds_toArray, List.set_cons_zero, List.set_cons_succ])
            (refine wpAnyH_take (i := 21) (v := ?_) rfl (by kernel_rfl) (by kernel_rfl) (by kernel_rfl) (fun _ _ _ h => h) (Or.inl ⟨by rfl, ?_⟩) HS ?_; rotate_left; (intro w hSw; obtain ⟨s1, s2⟩ := hSw; go_simp; try (with_reducible rfl)); simp only [Act.put, List.getElem_toArray, List.getElem_cons_zero, List.getElem_cons_succ, List.setIfInBounds_toArray, List.set_cons_zero, List.set_cons_succ])
            refine wpAnyH_all (rs := [12, 22]) (by kernel_rfl) (by decide) (fun j hj => ?_)
            have hj2 : j = 12 ∨ j = 22 := by simpa using hj
            clear hj
            rcases hj2 with rfl | rfl
            · (refine wpOp_step rfl (fun K hK => ?_); rw [if_pos (by simp [Region.wanted])]; go_simp; refine hK _ _ ⟨HS, ?_⟩; clear hK K; try simp only [Act.put, List.getElem_toArray, List.getElem_cons_zero, List.getElem_cons_succ, List.setIfInBounds_toArray, List.set_cons_zero, List.set_cons_succ])
              (refine wpAnyH_all (rs := [22]) (by kernel_rfl) (by decide) (fun j hj => ?_); obtain rfl : j = 22 := (by simpa using hj); clear hj; refine wpOp_step rfl (fun K hK => ?_); rw [if_pos (by simp [Region.wanted])]; go_simp; refine hK _ _ ⟨HS1 _, ?_⟩; clear hK K; try simp only [Act.put, List.getElem_toArray, List.getElem_cons_zero, List.getElem_cons_succ, List.setIfInBounds_toArray, List.set_cons_zero, List.set_cons_succ])
              (refine wpAnyH_all (rs := [23]) (by kernel_rfl) (by decide) (fun j hj => ?_); obtain rfl : j = 23 := (by simpa using hj); clear hj; refine wpOp_step rfl (fun K hK => ?_); refine step_append_keep _ (by rfl) _ _ _ (by rfl) base 5 i0 _ 1 1 Try.underlying32 hi0 hz0 hz1 hz2 rfl (by decide) (.slice go m gc) m (bys ys) (by rfl) (HOW.out _) ⟨wr.heap.size, 0, none⟩ 1 1 [.int .u8 ((mc.toNat : Int) + 1)] (by rfl) (by rfl) (World.news_of_block (cs := #[.int .u8 ((mc.toNat : Int) + 1)]) (t := 5) (fr := (0, 0)) (heap_alloc_new wr _)) (by simp [Value.oneCell']) (by omega) (by unfold maxLen; omega) (by omega) (by have := HBS.out; simp; omega) (wr.heap.size + 1) (by simp) ?_; intro gg cap2 w2 hown2 hgrow hat; obtain ⟨hf2, hB2, hm2, u, hc2⟩ := HF.out w2 hgrow; have HE := (show Hid _ from HST.out gg cap2 w2 hown2 hgrow hat); clear hown2 hgrow hat; refine hK _ _ ⟨⟨hB2, hm2⟩, ?_⟩; clear hK K; try simp only [Act.put, List.getElem_toArray, List.getElem_cons_zero, List.getElem_cons_succ, List.setIfInBounds_toArray, List.set_cons_zero, List.set_cons_succ])
              (refine wpAnyH_take (i := 24) (v := ?_) rfl (by kernel_rfl) (by kernel_rfl) (by kernel_rfl) (fun _ _ _ h => h) (Or.inl ⟨by rfl, ?_⟩) ⟨hB2, hm2⟩ ?_; rotate_left; (intro w hSw; obtain ⟨s1, s2⟩ := hSw; go_simp; try (with_reducible rfl)); simp only [Act.put, List.getElem_toArray, List.getElem_cons_zero, List.getElem_cons_succ, List.setIfInBounds_toArray, List.set_cons_zero, List.set_cons_succ])
              (refine wpAnyH_take (i := 25) (v := ?_) rfl (by kernel_rfl) (by kernel_rfl) (by kernel_rfl) (fun _ _ _ h => h) (Or.inl ⟨by rfl, ?_⟩) ⟨hB2, hm2⟩ ?_; rotate_left; (intro w hSw; obtain ⟨s1, s2⟩ := hSw; go_simp; try (with_reducible rfl)); simp only [Act.put, List.getElem_toArray, List.getElem_cons_zero, List.getElem_cons_succ, List.setIfInBounds_toArray, List.set_cons_zero, List.set_cons_succ])
              (refine wpAnyH_all (rs := [26]) (by kernel_rfl) (by decide) (fun j hj => ?_); obtain rfl : j = 26 := (by simpa using hj); clear hj; refine wpOp_step rfl (fun K hK => ?_); rw [if_pos (by simp [Region.wanted])]; go_simp; refine hK _ _ ⟨⟨by rw [World.cell?_setCell_other _ _ _ _ (by simp)]; exact hB2, by rw [World.cell?_setCell_other _ _ _ _ (by simp)]; exact hm2⟩, ?_⟩; clear hK K; try simp only [Act.put, List.getElem_toArray, List.getElem_cons_zero, List.getElem_cons_succ, List.setIfInBounds_toArray, List.set_cons_zero, List.set_cons_succ])
              refine wpAnyH_done (by kernel_rfl) ?_ _
              go_wp2
              go_roundw
              case rel => exact ⟨i + 1, by omega, by go_num, HE⟩
              case measure => simp [intOf]; omega
            · (refine wpOp_step rfl (fun K hK => ?_); rw [if_pos (by simp [Region.wanted])]; go_simp; refine hK _ _ ⟨HS1 _, ?_⟩; clear hK K; try simp only [Act.put, List.getElem_toArray, List.getElem_cons_zero, List.getElem_cons_succ, List.setIfInBounds_toArray, List.set_cons_zero, List.set_cons_succ])
              (refine wpAnyH_all (rs := [12]) (by kernel_rfl) (by decide) (fun j hj => ?_); obtain rfl : j = 12 := (by simpa using hj); clear hj; refine wpOp_step rfl (fun K hK => ?_); rw [if_pos (by simp [Region.wanted])]; go_simp; refine hK _ _ ⟨HS1 _, ?_⟩; clear hK K; try simp only [Act.put, List.getElem_toArray, List.getElem_cons_zero, List.getElem_cons_succ, List.setIfInBounds_toArray, List.set_cons_zero, List.set_cons_succ])
              (refine wpAnyH_all (rs := [23]) (by kernel_rfl) (by decide) (fun j hj => ?_); obtain rfl : j = 23 := (by simpa using hj); clear hj; refine wpOp_step rfl (fun K hK => ?_); refine step_append_keep _ (by rfl) _ _ _ (by rfl) base 5 i0 _ 1 1 Try.underlying32 hi0 hz0 hz1 hz2 rfl (by decide) (.slice go m gc) m (bys ys) (by rfl) (HOW.out _) ⟨wr.heap.size, 0, none⟩ 1 1 [.int .u8 ((mc.toNat : Int) + 1)] (by rfl) (by rfl) (World.news_of_block (cs := #[.int .u8 ((mc.toNat : Int) + 1)]) (t := 5) (fr := (0, 0)) (heap_alloc_new wr _)) (by simp [Value.oneCell']) (by omega) (by unfold maxLen; omega) (by omega) (by have := HBS.out; simp; omega) (wr.heap.size + 1) (by simp) ?_; intro gg cap2 w2 hown2 hgrow hat; obtain ⟨hf2, hB2, hm2, u, hc2⟩ := HF.out w2 hgrow; have HE := (show Hid _ from HST.out gg cap2 w2 hown2 hgrow hat); clear hown2 hgrow hat; refine hK _ _ ⟨⟨hB2, hm2⟩, ?_⟩; clear hK K; try simp only [Act.put, List.getElem_toArray, List.getElem_cons_zero, List.getElem_cons_succ, List.setIfInBounds_toArray, List.set_cons_zero, List.set_cons_succ])
              (refine wpAnyH_take (i := 24) (v := ?_) rfl (by kernel_rfl) (by kernel_rfl) (by kernel_rfl) (fun _ _ _ h => h) (Or.inl ⟨by rfl, ?_⟩) ⟨hB2, hm2⟩ ?_; rotate_left; (intro w hSw; obtain ⟨s1, s2⟩ := hSw; go_simp; try (with_reducible rfl)); simp only [Act.put, List.getElem_toArray, List.getElem_cons_zero, List.getElem_cons_succ, List.setIfInBounds_toArray, List.set_cons_zero, List.set_cons_succ])
              (refine wpAnyH_take (i := 25) (v := ?_) rfl (by kernel_rfl) (by kernel_rfl) (by kernel_rfl) (fun _ _ _ h => h) (Or.inl ⟨by rfl, ?_⟩) ⟨hB2, hm2⟩ ?_; rotate_left; (intro w hSw; obtain ⟨s1, s2⟩ := hSw; go_simp; try (with_reducible rfl)); simp only [Act.put, List.getElem_toArray, List.getElem_cons_zero, List.getElem_cons_succ, List.setIfInBounds_toArray, List.set_cons_zero, List.set_cons_succ])
              (refine wpAnyH_all (rs := [26]) (by kernel_rfl) (by decide) (fun j hj => ?_); obtain rfl : j = 26 := (by simpa using hj); clear hj; refine wpOp_step rfl (fun K hK => ?_); rw [if_pos (by simp [Region.wanted])]; go_simp; refine hK _ _ ⟨⟨by rw [World.cell?_setCell_other _ _ _ _ (by simp)]; exact hB2, by rw [World.cell?_setCell_other _ _ _ _ (by simp)]; exact hm2⟩, ?_⟩; clear hK K; try simp only [Act.put, List.getElem_toArray, List.getElem_cons_zero, List.getElem_cons_succ, List.setIfInBounds_toArray, List.set_cons_zero, List.set_cons_succ])
              refine wpAnyH_done (by kernel_rfl) ?_ _
              go_wp2
              go_roundw
              case rel => exact ⟨i + 1, by omega, by go_num, HE⟩
              case measure => simp [intOf]; omega
          · obtain rfl : i = 2 := by omega
            have HR3 : Hid (GrowRel w wr base B (.slice (some ⟨rg, 0, none⟩) L rc) ow L M (k + 1) 0) := HR2.out.next (by omega)
            clear HR2
            go_wp2
            go_roundw
            case rel => exact ⟨k + 1, by omega, by go_num, HR3⟩
            case measure => simp [intOf]; omega
    · go_wp2
      go_end0
      exact ⟨rfl, HR.out.done⟩

end Go.Proofs.Ytjmameknbnflaab
