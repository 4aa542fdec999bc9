/-
  ReachMaps: what the document's source of the items that are there says; its need, and what lacks.
-/
import Derived.Test.YtngaimahhgmciaaGreatDoorQthp
import Derived.Test.YtngaimahhgmciaaGreatDoorQcep
namespace Go.Proofs.YtngaimahhgmciaaGreatDoor
open Go.RowKit Go.Lib Go.Sort
set_option linter.unusedVariables false
set_option linter.unusedSimpArgs false

theorem Ms9.keptT {lo hi b : Nat} {M : List (List UInt8 × List UInt8)} {V : List Value} {w w' : World} (h : Ms9 lo hi b M V w) (hk : Kept [] w w') : Ms9 lo hi b M V w' :=
  ⟨h.im.kept hk (by simp), fun j hj => (h.own j hj).kept hk (fun _ _ => by simp), h.len, h.lob, h.hib, h.hiv⟩
theorem Ms9.mfT {lo hi b N : Nat} {M : List (List UInt8 × List UInt8)} {V : List Value} {w : World} (h : Ms9 lo hi b M V w) (hN : M.length ≤ N) : Mf lo hi b (mpf M) N w := ⟨M, V, h, rfl, hN⟩
theorem Ms9.mapAtT {lo hi b : Nat} {M : List (List UInt8 × List UInt8)} {V : List Value} {w : World} (h : Ms9 lo hi b M V w) (hgt : 4 ≤ lo) : MapAt w (.map (some b)) M := (fix_std hgt h).at_ (fun _ _ => rfl)
theorem Mf.lookT {lo hi b N : Nat} {f : List UInt8 → An} {w : World} (h : Mf lo hi b f N w) (q : List UInt8) (hq : q.length = 32) {xs : List UInt8} (hf : f q = .data xs) : ∃ v, OwnB w lo v xs ∧ (∀ g, v.ownBlock = some g → g < hi) ∧ xs.length ≤ 140737488355328 ∧ ∀ l W, b ∉ l → Kept l w W → (Instr.lookup 33 (.map (some b)) (.agg (bys q).toArray) false).run Tryz.prog W = .ok v W := by
  obtain ⟨M, V, h1, h2, h3⟩ := h
  rw [← h2] at hf
  have hm := mpf_data hf
  obtain ⟨j, hj⟩ := List.getElem?_of_mem hm
  have hjl : j < M.length := (List.getElem?_eq_some_iff.1 hj).1
  have hFd : M.getD j ([], []) = (q, xs) := by rw [List.getD_eq_getElem?_getD, hj]; rfl
  have ho := h1.own j hjl
  rw [hFd] at ho
  have hKj : (M.map (·.1))[j]? = some q := by rw [List.getElem?_map, hj]; rfl
  refine ⟨V.getD j unitv, ho, h1.hiv j hjl, h1.len _ hm, fun l W hl hW => ?_⟩
  rcases (h1.im.kept hW hl).look Tryz.underlying33 Tryz.nilB q hq false with ⟨g1, _⟩ | ⟨j2, v, g1, g2, g3⟩
  · exact absurd (List.mem_of_getElem? hKj) g1
  · have e2 := nodup_idx h1.im.nodup g1 hKj
    subst e2
    have : V.getD j2 unitv = v := by rw [List.getD_eq_getElem?_getD, g2]; rfl
    rw [this]
    simp only [Bool.false_eq_true, if_false] at g3
    exact g3
theorem canon_upT {l : List (List UInt8)} (h : Up l) : canon l = l := up_uniq (up_canon _) h (fun q => mem_canon)
/-- The ids that are there. -/
def keyT (L : List It9) : List (List UInt8) := (ids9 L).filter (fun q => (fst9 L q).code == 0)
theorem keyT_eq (L : List It9) : (map9 L (ids9 L)).map (·.1) = keyT L := map9_keys L _
theorem keyT_up (L : List It9) : Up (keyT L) := List.Pairwise.sublist List.filter_sublist (up_canon _)
theorem keyT_in {L : List It9} {q : List UInt8} (h : q ∈ keyT L) : q ∈ ids9 L := (List.mem_filter.1 h).1
theorem thrs_ids (L : List It9) : (thrs L (ids9 L)).map (·.id) = keyT L := by
  unfold thrs keyT
  rw [List.map_map]
  conv => rhs; rw [← List.map_id ((ids9 L).filter (fun q => (fst9 L q).code == 0))]
  refine List.map_congr_left (fun q hq => ?_)
  obtain ⟨z, _, h1, h2⟩ := fst9_in (keyT_in (L := L) hq)
  show (fst9 L q).id = q
  rw [h1, h2]
theorem thrs_ids9 (L : List It9) : ids9 (thrs L (ids9 L)) = keyT L := by
  show canon (((thrs L (ids9 L)).take 60).map (·.id)) = keyT L
  rw [List.take_of_length_le (Nat.le_trans (thrs_le L _) (ids9_len L)), thrs_ids]
  exact canon_upT (keyT_up L)
theorem thrs_fst {L : List It9} {q : List UInt8} (h : q ∈ keyT L) : fst9 (thrs L (ids9 L)) q = thr (fst9 L q) := by
  rw [← thrs_ids9] at h
  obtain ⟨z, hz, h1, h2⟩ := fst9_in h
  have hm : (thrs L (ids9 L)).getD z it0 ∈ thrs L (ids9 L) := by
    rw [List.getD_eq_getElem?_getD, List.getElem?_eq_getElem hz]
    exact List.getElem_mem _
  obtain ⟨q2, hq2, e2⟩ := List.mem_map.1 (show (thrs L (ids9 L)).getD z it0 ∈ ((ids9 L).filter (fun q => (fst9 L q).code == 0)).map (fun q => thr (fst9 L q)) from hm)
  rw [h1, ← e2]
  have e3 : (thr (fst9 L q2)).id = q2 := by
    obtain ⟨z2, _, a1, a2⟩ := fst9_in (keyT_in (L := L) hq2)
    show (fst9 L q2).id = q2
    rw [a1, a2]
  rw [← e2, e3] at h2
  rw [h2]
theorem mpf_key {L : List It9} {q : List UInt8} (h : q ∈ keyT L) : mpf (map9 L (ids9 L)) q = .data (fst9 L q).bs := by
  have hn : ((map9 L (ids9 L)).map (·.1)).Nodup := by rw [keyT_eq]; exact up_nodupT (keyT_up L)
  exact (mpf_iff hn).2 (List.mem_map.2 ⟨q, h, rfl⟩)
theorem mpf_nokey {L : List It9} {q : List UInt8} (h : q ∉ keyT L) : mpf (map9 L (ids9 L)) q = .lack := mpf_none (by rw [keyT_eq]; exact h)
/-- The document's source. -/
def codT (L : List It9) : List Int := (keyT L).map (fun _ => 0)
theorem fnd_key {L : List It9} {q : List UInt8} (h : q ∈ keyT L) : fnd9 (keyT L) (dat9 (thrs L (ids9 L)) (keyT L)) (codT L) q = (.slice (fst9 L q).ao (fst9 L q).n (fst9 L q).cap, 0) := by
  obtain ⟨k, hk⟩ : ∃ k, (keyT L).findIdx? (· == q) = some k := by
    cases hf : (keyT L).findIdx? (· == q) with
    | some k => exact ⟨k, rfl⟩
    | none =>
      rw [List.findIdx?_eq_none_iff] at hf
      have := hf q h
      simp at this
  obtain ⟨hkl, hkq, _⟩ := List.findIdx?_eq_some_iff_getElem.1 hk
  have hkq : (keyT L)[k] = q := by simpa using hkq
  unfold fnd9
  rw [hk]
  simp only
  have hc : (codT L).getD k 0 = 0 := by
    unfold codT
    rw [List.getD_eq_getElem?_getD, List.getElem?_map, List.getElem?_eq_getElem hkl]
    rfl
  have hd : (dat9 (thrs L (ids9 L)) (keyT L)).getD k unitv = (thr (fst9 L q)).dv := by
    unfold dat9
    rw [List.getD_eq_getElem?_getD, List.getElem?_map, List.getElem?_eq_getElem hkl, hkq]
    show (fst9 (thrs L (ids9 L)) q).dv = _
    rw [thrs_fst h]
  rw [hc, if_pos rfl, hd]
  rfl
theorem fnd_nokey {L : List It9} {q : List UInt8} (h : q ∉ keyT L) : fnd9 (keyT L) (dat9 (thrs L (ids9 L)) (keyT L)) (codT L) q = (.slice none 0 0, 93) := by
  have hf : (keyT L).findIdx? (· == q) = none := by
    rw [List.findIdx?_eq_none_iff]
    intro p hp
    simp only [beq_eq_false_iff_ne]
    rintro rfl
    exact h hp
  unfold fnd9
  rw [hf]
theorem fndT {w : World} {ao : Option Addr} {n cap : Nat} {L : List It9} (h : InI w ao n cap L) (cf : List UInt8 → Int) : Fnd9 w (keyT L) (dat9 (thrs L (ids9 L)) (keyT L)) (codT L) (mpf (map9 L (ids9 L))) cf where
  data i xs hi := by
    by_cases hk : i ∈ keyT L
    · rw [mpf_key hk] at hi
      injection hi with hi
      subst hi
      obtain ⟨z, hz, h1, _⟩ := fst9_in (keyT_in hk)
      have hin := (h.its z hz).2.inb
      rw [← h1] at hin
      exact ⟨_, _, by rw [fnd_key hk, hin.len], by rw [hin.len]; exact hin.le, by rw [hin.len]; have := hin.le; have := hin.max; omega, hin.sl⟩
    · rw [mpf_nokey hk] at hi
      cases hi
  lack i hi := by
    by_cases hk : i ∈ keyT L
    · rw [mpf_key hk] at hi; cases hi
    · rw [fnd_nokey hk]; exact .inl rfl
  fail i hi := absurd hi (mpf_nofail _ i)
/-- The items that are there, in a row of their own. -/
theorem itsT {w w' : World} {ao ao2 : Option Addr} {n cap n2 c2 base : Nat} {L : List It9} (h : InI w ao n cap L) (hk : Kept [] w w') (ho : OwnT w' base (.slice ao2 n2 c2) (thrs L (ids9 L))) : ItsAt w' ao2 (thrs L (ids9 L)) ∧ (thrs L (ids9 L)).length = n2 := by
  refine ⟨fun i hi => ⟨ho.at_.2 i hi, ?_⟩, ho.at_.1⟩
  have hm : (thrs L (ids9 L)).getD i it0 ∈ thrs L (ids9 L) := by
    rw [List.getD_eq_getElem?_getD, List.getElem?_eq_getElem hi]
    exact List.getElem_mem _
  obtain ⟨q, hq, e⟩ := List.mem_map.1 (show _ ∈ ((ids9 L).filter (fun q => (fst9 L q).code == 0)).map (fun q => thr (fst9 L q)) from hm)
  obtain ⟨z, hz, h1, _⟩ := fst9_in (keyT_in (L := L) hq)
  have hin := (h.its z hz).2
  rw [← h1] at hin
  rw [← e]
  exact ⟨hin.inb.kept9 hk, show (Lit.int .i64 0).wf = true by decide⟩
/-- What plain answers of them. -/
theorem srT {w w' : World} {L : List It9} {vi vd vc : Value} (h : Src9 w w' (thrs L (ids9 L)) vi vd vc) : Sr9 w' vi vd vc (keyT L) (dat9 (thrs L (ids9 L)) (keyT L)) (codT L) := by
  have e := thrs_ids9 L
  have hi := h.ids
  have hd := h.dat
  have hc := h.cod
  rw [e] at hi hd hc
  obtain ⟨aI, cI, eI, _⟩ := own_shape hi.1
  obtain ⟨aD, cD, eD, _⟩ := own_shape hd
  obtain ⟨aC, cC, eC, _⟩ := own_shape hc
  have lD : (dat9 (thrs L (ids9 L)) (keyT L)).length = (keyT L).length := by unfold dat9; rw [List.length_map]
  have lC : (cod9 (thrs L (ids9 L)) (keyT L)).length = (keyT L).length := by unfold cod9; rw [List.length_map]
  subst eI
  subst eD
  subst eC
  refine ⟨⟨aI, cI, rfl, hi.ids.1⟩, ⟨aD, cD, by rw [lD], fun k hk => ?_⟩, ⟨aC, cC, by rw [lC], fun k hk => ?_⟩⟩
  · obtain ⟨g, o, e1, e2, _⟩ := own_at9 hd k (by rw [lD]; exact hk)
    exact ⟨g, o, e1, e2⟩
  · obtain ⟨g, o, e1, e2, _⟩ := own_at9 hc k (by rw [lC]; exact hk)
    refine ⟨g, o, e1, ?_⟩
    rw [e2]
    have hkq : (keyT L)[k] ∈ keyT L := List.getElem_mem _
    have e3 : (cod9 (thrs L (ids9 L)) (keyT L)).getD k unitv = .int .i64 (fst9 (thrs L (ids9 L)) (keyT L)[k]).code := by
      unfold cod9
      rw [List.getD_eq_getElem?_getD, List.getElem?_map, List.getElem?_eq_getElem hk]
      rfl
    have e4 : (codT L).getD k 0 = 0 := by
      unfold codT
      rw [List.getD_eq_getElem?_getD, List.getElem?_map, List.getElem?_eq_getElem hk]
      rfl
    rw [e3, e4, thrs_fst hkq]
    rfl
theorem keyT_len (L : List It9) : (keyT L).length ≤ 60 := Nat.le_trans (List.length_filter_le _ _) (ids9_len L)

/-- The document's walk tells what the program's does. -/
theorem ref_tells {f : List UInt8 → An} (hf : ∀ i, f i ≠ .fail) {roots : List (List UInt8)} {r : Option (List UInt8) × Ws × List (List UInt8)} (h : Tls f roots r) :
    (refW f roots).1 = none ∧ (refW f roots).2.1.need = canon r.2.1.N ∧ (refW f roots).2.1.lacks = canon r.2.1.L ∧ pk9 (refW f roots) = picks r.2.1.B r.2.2 r.2.1.L := by
  have hw := walk_sem hf [] roots
  obtain ⟨h1, _, h3⟩ := walk_ref f roots
  have hn := hw.ok
  obtain ⟨a1, a2, a3, a4⟩ := h3 hn
  obtain ⟨c1, c2, c3⟩ := tls_cong (fun q => Iff.rfl) hw h
  refine ⟨h1.trans hn, by rw [a1, c1], by rw [a3, c2], ?_⟩
  rw [← c3]
  unfold pk9 picks
  rw [a2, a3, a4]
  have e : ∀ {B : List (List UInt8)}, (canon B ≠ []) ↔ (B ≠ []) := fun {B} => ⟨fun h e => h (canon_nil e), canon_ne⟩
  simp only [e]
end Go.Proofs.YtngaimahhgmciaaGreatDoor
