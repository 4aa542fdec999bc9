/-
  ReachDeep: chains of folders: mathematics.
-/
import Derived.Test.YtngaimahhgmciabGreatDoorQlap
namespace Go.Proofs.YtngaimahhgmciabGreatDoor
open Go.RowKit Go.Lib Go.Sort
set_option linter.unusedVariables false
set_option linter.unusedSimpArgs false

def idb (i : Nat) : List UInt8 := UInt8.ofNat i :: List.replicate 31 0
theorem idb_len (i : Nat) : (idb i).length = 32 := by simp [idb]
theorem idb_inj {a b : Nat} (ha : a < 256) (hb : b < 256) (h : idb a = idb b) : a = b := by
  unfold idb at h
  injection h with h _
  have := congrArg UInt8.toNat h
  rw [UInt8.toNat_ofNat', UInt8.toNat_ofNat', Nat.mod_eq_of_lt ha, Nat.mod_eq_of_lt hb] at this
  exact this
theorem idb_lt {a b : Nat} (hab : a < b) (hb : b < 256) : compareBytes (idb a) (idb b) < 0 := by
  have h1 : UInt8.ofNat a < UInt8.ofNat b := by
    rw [UInt8.lt_iff_toNat_lt, UInt8.toNat_ofNat', UInt8.toNat_ofNat', Nat.mod_eq_of_lt (by omega), Nat.mod_eq_of_lt hb]
    exact hab
  unfold idb compareBytes
  simp [h1]
/-- A tree of one folder. -/
def ej (j : Nat) : Ent := ⟨[100], 3, idb j⟩
theorem ej_ok (j : Nat) : EntOk (ej j) := ⟨idb_len j, by show ([100] : List UInt8).length ≤ _; decide, by show (Lit.int .i64 3).wf = true; decide⟩
def EjT (j : Nat) : Prop := Tn.isTree [ej j] = true ∧ Tn.parse (Tn.encd [ej j]) = some [ej j] ∧ (Tn.encd [ej j]).length = 37
theorem ej_tree : ∀ j, j ≤ 13 → EjT j
  | 0, _ => ⟨by kernel_rfl, by kernel_rfl, by kernel_rfl⟩
  | 1, _ => ⟨by kernel_rfl, by kernel_rfl, by kernel_rfl⟩
  | 2, _ => ⟨by kernel_rfl, by kernel_rfl, by kernel_rfl⟩
  | 3, _ => ⟨by kernel_rfl, by kernel_rfl, by kernel_rfl⟩
  | 4, _ => ⟨by kernel_rfl, by kernel_rfl, by kernel_rfl⟩
  | 5, _ => ⟨by kernel_rfl, by kernel_rfl, by kernel_rfl⟩
  | 6, _ => ⟨by kernel_rfl, by kernel_rfl, by kernel_rfl⟩
  | 7, _ => ⟨by kernel_rfl, by kernel_rfl, by kernel_rfl⟩
  | 8, _ => ⟨by kernel_rfl, by kernel_rfl, by kernel_rfl⟩
  | 9, _ => ⟨by kernel_rfl, by kernel_rfl, by kernel_rfl⟩
  | 10, _ => ⟨by kernel_rfl, by kernel_rfl, by kernel_rfl⟩
  | 11, _ => ⟨by kernel_rfl, by kernel_rfl, by kernel_rfl⟩
  | 12, _ => ⟨by kernel_rfl, by kernel_rfl, by kernel_rfl⟩
  | 13, _ => ⟨by kernel_rfl, by kernel_rfl, by kernel_rfl⟩
  | j + 14, h => absurd h (by omega)
theorem e0_tree : Tn.isTree [] = true ∧ Tn.parse (Tn.encd []) = some [] ∧ (Tn.encd []).length = 2 := ⟨by kernel_rfl, by kernel_rfl, by kernel_rfl⟩
/-- What the i-th tree of a chain of n is; t: what the last one names, 0: nothing. -/
def vb (n t i : Nat) : List UInt8 := if i < n then Tn.encd [ej (i + 1)] else if t = 0 then Tn.encd [] else Tn.encd [ej t]
/-- The first k of them. -/
def MD (n t k : Nat) : List (List UInt8 × List UInt8) := (List.range k).map (fun j => (idb (j + 1), vb n t (j + 1)))
theorem MD_len (n t k : Nat) : (MD n t k).length = k := by simp [MD]
theorem MD_succ (n t k : Nat) : MD n t (k + 1) = MD n t k ++ [(idb (k + 1), vb n t (k + 1))] := by simp [MD, List.range_succ]
theorem MD_at {n t k j : Nat} (h : j < k) : (MD n t k)[j]? = some (idb (j + 1), vb n t (j + 1)) := by simp [MD, h]
theorem MD_keys (n t k : Nat) : (MD n t k).map (·.1) = (List.range k).map (fun j => idb (j + 1)) := by simp [MD, Function.comp_def]
theorem MD_nodup {n t k : Nat} (hk : k ≤ 12) : ((MD n t k).map (·.1)).Nodup := by
  rw [MD_keys]
  unfold List.Nodup
  rw [List.pairwise_map]
  refine List.Pairwise.imp_of_mem ?_ List.nodup_range
  intro a b ha hb hab e
  have h1 := List.mem_range.1 ha
  have h2 := List.mem_range.1 hb
  have := idb_inj (by omega) (by omega) e
  omega
theorem MD_new {n t k : Nat} (hk : k ≤ 12) : idb (k + 1) ∉ (MD n t k).map (·.1) := by
  rw [MD_keys]
  intro h
  obtain ⟨j, hj, e⟩ := List.mem_map.1 h
  have h1 := List.mem_range.1 hj
  have := idb_inj (by omega) (by omega) e
  omega
theorem vb_len {n t i : Nat} (hi : i ≤ 12) (ht : t ≤ 12) : (vb n t i).length ≤ 37 := by
  unfold vb
  split
  · rw [(ej_tree (i + 1) (by omega)).2.2]; omega
  · split
    · rw [e0_tree.2.2]; omega
    · rw [(ej_tree t (by omega)).2.2]; omega
section
variable {f : List UInt8 → An} {q : List UInt8}
theorem one_fold {j : Nat} (hj : j ≤ 13) (h : f q = .data (Tn.encd [ej j])) : fldsF f q = [idb j] ∧ idsF f q = [idb j] ∧ ¬ badF f q := by
  have hp := (ej_tree j hj).2.1
  refine ⟨?_, ?_, ?_⟩
  · unfold fldsF; rw [h]; simp only [hp]; rfl
  · unfold idsF; rw [h]; simp only [hp]; rfl
  · unfold badF; rw [h]; simp only [hp]; simp
theorem none_fold (h : f q = .data (Tn.encd [])) : fldsF f q = [] ∧ idsF f q = [] ∧ ¬ badF f q := by
  have hp := e0_tree.2.1
  refine ⟨?_, ?_, ?_⟩
  · unfold fldsF; rw [h]; simp only [hp]; rfl
  · unfold idsF; rw [h]; simp only [hp]; rfl
  · unfold badF; rw [h]; simp only [hp]; simp
end
theorem MD_f {n t j : Nat} (hn : n ≤ 12) (hj : j < n) : mpf (MD n t n) (idb (j + 1)) = .data (vb n t (j + 1)) := mpf_at (MD_nodup hn) (MD_at hj)
def idg (k : Nat) : List UInt8 := idb (k + 1)
theorem up_ids : ∀ n, n ≤ 12 → Up ((List.range n).map idg) := fun n hn => by
  unfold Up
  rw [List.pairwise_map]
  refine List.Pairwise.imp_of_mem ?_ (List.pairwise_lt_range (n := n))
  intro a b ha hb hab
  have := List.mem_range.1 hb
  exact idb_lt (by omega) (by omega)

/-- A chain that is not too deep. -/
theorem deep_flat {n : Nat} (h1 : 1 ≤ n) (h6 : n ≤ 6) {r : Option (List UInt8) × Ws × List (List UInt8)} (h : Tls (mpf (MD n 0 n)) [idb 1] r) :
    picks r.2.1.B r.2.2 r.2.1.L = none ∧ (canon r.2.1.N).length = n := by
  have hs : ∀ k, k < n - 1 → fldsF (mpf (MD n 0 n)) (idg k) = [idg (k + 1)] ∧ idsF (mpf (MD n 0 n)) (idg k) = [idg (k + 1)] ∧ ¬ badF (mpf (MD n 0 n)) (idg k) := fun k hk => by
    have hf := MD_f (n := n) (t := 0) (by omega) (show k < n by omega)
    unfold vb at hf
    rw [if_pos (by omega)] at hf
    exact one_fold (by omega) hf
  have he : fldsF (mpf (MD n 0 n)) (idg (n - 1)) = [] ∧ idsF (mpf (MD n 0 n)) (idg (n - 1)) = [] ∧ ¬ badF (mpf (MD n 0 n)) (idg (n - 1)) := by
    have hf := MD_f (n := n) (t := 0) (by omega) (show n - 1 < n by omega)
    unfold vb at hf
    rw [if_neg (by omega), if_pos rfl] at hf
    exact none_fold hf
  have hc := lev_chain (f := mpf (MD n 0 n)) (g := idg) (i := idb 1) rfl (fun k hk => (hs k hk).1)
  have hend := lev_end (f := mpf (MD n 0 n)) (g := idg) (i := idb 1) rfl (fun k hk => (hs k hk).1) he.1
  have ho : ∀ q, opn (mpf (MD n 0 n)) [idb 1] q → ∃ j, j < n ∧ q = idg j := fun q ⟨j, hj, hl⟩ => by
    by_cases hjn : j ≤ n - 1
    · exact ⟨j, by omega, (hc j hjn q).1 hl⟩
    · have := hend (j - n) q
      rw [show n - 1 + 1 + (j - n) = j by omega] at this
      exact absurd hl this
  have hn : ∀ q, nd (mpf (MD n 0 n)) [idb 1] q ↔ q ∈ (List.range n).map idg := fun q => by
    rw [List.mem_map]
    constructor
    · rintro (hq | ⟨p, hp, hq⟩)
      · simp only [List.mem_singleton] at hq
        exact ⟨0, List.mem_range.2 (by omega), hq.symm⟩
      · obtain ⟨j, hj, rfl⟩ := ho p hp
        by_cases hjn : j < n - 1
        · rw [(hs j hjn).2.1] at hq
          simp only [List.mem_singleton] at hq
          exact ⟨j + 1, List.mem_range.2 (by omega), hq.symm⟩
        · have : j = n - 1 := by omega
          rw [this, he.2.1] at hq
          simp at hq
    · rintro ⟨j, hj, rfl⟩
      have hj := List.mem_range.1 hj
      exact nd_lev (k := j) (by omega) ((hc j (by omega) _).2 rfl)
  refine ⟨(whl_iff h).2 ⟨fun q hq => ?_, fun q hq => ?_, fun q hq => ?_⟩, ?_⟩
  · obtain ⟨j, hj, rfl⟩ := ho q hq
    by_cases hjn : j < n - 1
    · exact (hs j hjn).2.2
    · have : j = n - 1 := by omega
      rw [this]; exact he.2.2
  · have := hend (6 - n) q
    rw [show n - 1 + 1 + (6 - n) = 6 by omega] at this
    exact this hq
  · obtain ⟨j, hj, rfl⟩ := List.mem_map.1 ((hn q).1 hq)
    rw [show idg j = idb (j + 1) from rfl, MD_f (by omega) (List.mem_range.1 hj)]
    simp
  · have e : canon r.2.1.N = (List.range n).map idg := up_uniq (up_canon _) (up_ids n (by omega)) (fun q => by rw [mem_canon, h.N q, hn q])
    rw [e]; simp
theorem picks_deep {B R L : List (List UInt8)} (hB : B = []) {i : List UInt8} (hR : R = [i]) : picks B R L = some (101, i) := by
  unfold picks
  rw [if_neg (by simp [hB]), if_pos (by simp [hR]), hR]
  rfl
/-- One that is. -/
theorem deep_long {n : Nat} (h7 : 7 ≤ n) (hn : n ≤ 12) {r : Option (List UInt8) × Ws × List (List UInt8)} (h : Tls (mpf (MD n 0 n)) [idb 1] r) :
    picks r.2.1.B r.2.2 r.2.1.L = some (101, idb 7) := by
  have hs : ∀ k, k < 6 → fldsF (mpf (MD n 0 n)) (idg k) = [idg (k + 1)] ∧ idsF (mpf (MD n 0 n)) (idg k) = [idg (k + 1)] ∧ ¬ badF (mpf (MD n 0 n)) (idg k) := fun k hk => by
    have hf := MD_f (n := n) (t := 0) hn (show k < n by omega)
    unfold vb at hf
    rw [if_pos (by omega)] at hf
    exact one_fold (by omega) hf
  have hc := lev_chain (f := mpf (MD n 0 n)) (g := idg) (i := idb 1) rfl (fun k hk => (hs k hk).1)
  refine picks_deep (nil_iff.2 (fun q hq => ?_)) ?_
  · obtain ⟨⟨j, hj, hl⟩, hb⟩ := (h.B q).1 hq
    rw [(hc j (by omega) q).1 hl] at hb
    exact (hs j hj).2.2 hb
  · exact up_uniq h.up (by simp [Up]) (fun q => by rw [h.R q, hc 6 (Nat.le_refl _) q]; simp [idg])
/-- One that comes round. -/
def stp9 (n t : Nat) : Nat → Nat
  | 0 => 1
  | k + 1 => if stp9 n t k < n then stp9 n t k + 1 else t
theorem stp9_in {n t : Nat} (h1 : 1 ≤ n) (ht : 1 ≤ t) (htn : t ≤ n) : ∀ k, 1 ≤ stp9 n t k ∧ stp9 n t k ≤ n
  | 0 => ⟨Nat.le_refl _, h1⟩
  | k + 1 => by
    have := stp9_in h1 ht htn k
    unfold stp9
    split <;> omega
theorem deep_round {n t : Nat} (h1 : 1 ≤ n) (hn : n ≤ 12) (ht : 1 ≤ t) (htn : t ≤ n) {r : Option (List UInt8) × Ws × List (List UInt8)} (h : Tls (mpf (MD n t n)) [idb 1] r) :
    ∃ i, picks r.2.1.B r.2.2 r.2.1.L = some (101, i) := by
  have hs : ∀ k, k < 6 → fldsF (mpf (MD n t n)) (idb (stp9 n t k)) = [idb (stp9 n t (k + 1))] ∧ idsF (mpf (MD n t n)) (idb (stp9 n t k)) = [idb (stp9 n t (k + 1))] ∧ ¬ badF (mpf (MD n t n)) (idb (stp9 n t k)) := fun k hk => by
    obtain ⟨g1, g2⟩ := stp9_in h1 ht htn k
    have hf := MD_f (n := n) (t := t) hn (show stp9 n t k - 1 < n by omega)
    rw [show stp9 n t k - 1 + 1 = stp9 n t k by omega] at hf
    unfold vb at hf
    show fldsF _ _ = [idb (if stp9 n t k < n then stp9 n t k + 1 else t)] ∧ idsF _ _ = [idb (if stp9 n t k < n then stp9 n t k + 1 else t)] ∧ _
    by_cases hlt : stp9 n t k < n
    · rw [if_pos hlt] at hf ⊢
      exact one_fold (by omega) hf
    · rw [if_neg hlt, if_neg (by omega)] at hf
      rw [if_neg hlt]
      exact one_fold (by omega) hf
  have hc := lev_chain (f := mpf (MD n t n)) (g := fun k => idb (stp9 n t k)) (i := idb 1) rfl (fun k hk => (hs k hk).1)
  refine ⟨idb (stp9 n t 6), picks_deep (nil_iff.2 (fun q hq => ?_)) ?_⟩
  · obtain ⟨⟨j, hj, hl⟩, hb⟩ := (h.B q).1 hq
    rw [(hc j (by omega) q).1 hl] at hb
    exact (hs j hj).2.2 hb
  · exact up_uniq h.up (by simp [Up]) (fun q => by rw [h.R q, hc 6 (Nat.le_refl _) q]; simp)
/-- The last tree is another one. -/
theorem MD_set {n t : Nat} (h1 : 1 ≤ n) : (MD n 0 n).set (n - 1) (idb n, Tn.encd [ej t]) = if t = 0 then (MD n 0 n).set (n - 1) (idb n, Tn.encd [ej t]) else MD n t n := by
  by_cases ht : t = 0
  · rw [if_pos ht]
  · rw [if_neg ht]
    apply List.ext_getElem?
    intro q
    rw [List.getElem?_set, MD_len]
    by_cases e : n - 1 = q
    · subst e
      rw [if_pos rfl, if_pos (by omega), MD_at (by omega), show n - 1 + 1 = n by omega]
      unfold vb
      rw [if_neg (by omega), if_neg ht]
    · rw [if_neg e]
      by_cases hq : q < n
      · rw [MD_at hq, MD_at hq]
        unfold vb
        rw [if_pos (by omega), if_pos (by omega)]
      · rw [List.getElem?_eq_none (by rw [MD_len]; omega), List.getElem?_eq_none (by rw [MD_len]; omega)]
end Go.Proofs.YtngaimahhgmciabGreatDoor
