import Derived.Test.YtemlbmamcbmnjaaGreatDoorFap
import Derived.Test.YtemlbmamcbmnjaaGreatDoorFnfp
import Derived.Test.YtemlbmamcbmnjaaGreatDoorIep
import Derived.Test.YtemlbmamcbmnjaaGreatDoorFoap
import Derived.Test.YtemlbmamcbmnjaaGreatDoorIf0p
namespace Go.Proofs.YtemlbmamcbmnjaaGreatDoor
section
open Go.RowKit Dsk
set_option linter.unusedVariables false
set_option linter.unusedSimpArgs false
namespace Dsk
/-- The names but these. -/
def dels (l : Nm) (ns : List By) : Nm := l.filter (fun p => !ns.contains p.1)
theorem dels_nil (l : Nm) : dels l [] = l := by simp [dels]
theorem dels_cons (l : Nm) (n : By) (ns : List By) : dels (l.del n) ns = dels l (n :: ns) := by
  unfold dels Nm.del
  rw [List.filter_filter]
  apply List.filter_congr
  intro p _
  simp only [List.contains_cons, Bool.not_or]
  cases p.1 == n <;> simp
theorem dels_snoc (l : Nm) (ns : List By) (n : By) : (dels l ns).del n = dels l (ns ++ [n]) := by
  unfold dels Nm.del
  rw [List.filter_filter]
  apply List.filter_congr
  intro p _
  rw [Bool.eq_iff_iff]
  simp [and_comm]
theorem runN_tks (l : Nm) (ns : List By) : runN l (ns.map .tk) = dels l ns := by
  induction ns generalizing l with
  | nil => rw [dels_nil]; rfl
  | cons n r ih =>
    show runN (l.del n) (r.map .tk) = _
    rw [ih, dels_cons]
theorem dels_get {l : Nm} {ns : List By} {n : By} (h : n ∈ l.keys) (hn : n ∉ ns) : ∃ k, (dels l ns).get n = some k := by
  obtain ⟨p, hp, rfl⟩ := List.mem_map.1 h
  unfold Nm.get
  cases hf : (dels l ns).find? (fun q => q.1 == p.1) with
  | some q => exact ⟨q.2, rfl⟩
  | none => exact absurd (List.find?_eq_none.1 hf p (List.mem_filter.2 ⟨hp, by simpa using hn⟩)) (by simp)
/-- So many names were taken. -/
structure Cl (S : Ds) (ns : List By) (D : Ds) : Prop where
  on : D.on = true
  strokes : D.strokes = S.strokes + ns.length
  safe : D.safe = S.safe
  row : D.row = S.row ++ ns.map .tk
  shown : D.shown = dels S.shown ns
  th : D.th = S.th
  off : D.off = S.off
/-- The power went off. -/
structure Ct (S : Ds) (ns : List By) (D : Ds) : Prop where
  on : D.on = false
  safe : D.safe = S.safe
  row : D.row = S.row ++ ns.map .tk
  th : D.th = S.th
  pos : 1 ≤ S.off
/-- It is done. -/
structure Dn (S : Ds) (ns : List By) (D : Ds) : Prop where
  strokes : D.strokes = S.strokes + ns.length + 1
  safe : D.safe = dels S.shown ns
  row : D.row = []
  th : D.th = S.th
  on : D.on = true
  shown : D.shown = dels S.shown ns
  off : D.off = S.off
theorem goes_at {D : Ds} (h : D.goesOff = true) : 1 ≤ D.off := by
  unfold Ds.goesOff at h
  have := of_decide_eq_true h
  omega
theorem Cl.start {S : Ds} (h : S.on = true) : Cl S [] S := ⟨h, rfl, rfl, by simp, (dels_nil _).symm, rfl, rfl⟩
theorem Cl.step {S D : Ds} {ns : List By} {n : By} (h : Cl S ns D) (hm : isNm n = true) (hk : n ∈ S.shown.keys) (hn : n ∉ ns) :
    ((D.remove n).1 = 0 ∧ Cl S (ns ++ [n]) (D.remove n).2) ∨ ((D.remove n).1 = 50 ∧ Ct S (ns ++ [n]) (D.remove n).2) := by
  obtain ⟨k, hg⟩ := dels_get hk hn
  rw [← h.shown] at hg
  have er : D.remove n = (D.ans 0, D.tick.addName (.tk n)) := by simp [Ds.remove, Ds.find, hm, h.on, hg]
  rw [er]
  by_cases g : D.goesOff = true
  · exact .inr ⟨by simp [Ds.ans, g], by simp [Ds.addName, Ds.tick, g], h.safe, by show D.row ++ [.tk n] = _; rw [h.row]; simp, h.th, by rw [← h.off]; exact goes_at g⟩
  · have g' : D.goesOff = false := by simpa using g
    exact .inl ⟨by simp [Ds.ans, g'], by simp [Ds.addName, Ds.tick, g', h.on], by show D.strokes + 1 = _; rw [h.strokes]; simp; omega, h.safe, by show D.row ++ [.tk n] = _; rw [h.row]; simp, by show D.shown.del n = _; rw [h.shown, dels_snoc], h.th, h.off⟩
theorem Cl.sync {S D : Ds} {ns : List By} (h : Cl S ns D) : (D.syncNames.1 = 0 ∧ Dn S ns D.syncNames.2) ∨ (D.syncNames.1 = 50 ∧ Ct S ns D.syncNames.2) := by
  by_cases g : D.goesOff = true
  · have e : D.syncNames = (50, D.tick) := by simp [Ds.syncNames, h.on, g]
    rw [e]
    exact .inr ⟨rfl, by simp [Ds.tick, g], h.safe, h.row, h.th, by rw [← h.off]; exact goes_at g⟩
  · have g' : D.goesOff = false := by simpa using g
    have e : D.syncNames = (0, { D.tick with safe := D.shown, row := [] }) := by simp [Ds.syncNames, h.on, g', Ds.tick]
    rw [e]
    exact .inl ⟨rfl, by show D.strokes + 1 = _; rw [h.strokes], h.shown, rfl, h.th, by show (D.on && !D.goesOff) = true; rw [h.on, g']; rfl, h.shown, h.off⟩
/-- What Clean does, by its answer. -/
def CleanR (S : Ds) (q : By) (E : Int) (D : Ds) : Prop :=
  (S.list q = [] ∧ E = 0 ∧ Cl S [] D) ∨ (S.list q ≠ [] ∧ E = 0 ∧ Dn S (S.list q) D) ∨ (S.list q ≠ [] ∧ E = 50 ∧ ∃ j, Ct S ((S.list q).take j) D)
theorem crash_of2 {S : Ds} (ps : List Int) (h : ∀ p ∈ S.crashNm ps, (S.th p.2).still) : (S.crash ps).files = (S.crashNm ps).map (fun p => (p.1, (S.th p.2).shown)) := by
  show (S.crashNm ps).map (fun p => (p.1, (Ds.crashTh ps 0 (S.crashNm ps) S.th p.2).shown)) = _
  apply List.map_congr_left
  intro p hp
  rw [crashTh_still]
  intro k hk
  obtain ⟨q, hq, rfl⟩ := List.mem_map.1 hk
  exact h q hq
theorem files_dels (l : Nm) (th : Nat → Th) (ns : List By) : (dels l ns).map (fun p => (p.1, (th p.2).shown)) = (l.map (fun p => (p.1, (th p.2).shown))).filter (fun f => !ns.contains f.1) := by
  unfold dels
  rw [List.filter_map]
  rfl
/-- The files that do not begin so. -/
def rest (q : By) (l : List (By × By)) : List (By × By) := l.filter (fun f => !q.isPrefixOf f.1)
theorem list_mem {S : Ds} (hon : S.on = true) {q n : By} : n ∈ S.list q ↔ n ∈ S.shown.keys ∧ q.isPrefixOf n = true := by simp [Ds.list, hon]
theorem keys_files (S : Ds) {f : By × By} (h : f ∈ S.files) : f.1 ∈ S.shown.keys := by
  obtain ⟨p, hp, rfl⟩ := List.mem_map.1 h
  exact List.mem_map.2 ⟨p, hp, rfl⟩
theorem rest_of {S : Ds} (hon : S.on = true) (q : By) : S.files.filter (fun f => !(S.list q).contains f.1) = rest q S.files := by
  apply List.filter_congr
  intro f hf
  congr 1
  rw [Bool.eq_iff_iff]
  simp only [List.contains_iff_mem, list_mem hon, keys_files S hf, true_and]
theorem list_len {S : Ds} (hon : S.on = true) (q : By) : (S.list q).length + (rest q S.files).length = S.files.length := by
  have e : S.list q = (S.files.filter (fun f => q.isPrefixOf f.1)).map (·.1) := by
    have : S.shown.keys = S.files.map (·.1) := by simp [Nm.keys, Ds.files]
    simp only [Ds.list, hon, if_true, this]
    rw [List.filter_map]
    rfl
  rw [e, List.length_map]
  unfold rest
  generalize S.files = l
  induction l with
  | nil => rfl
  | cons f r ih =>
    simp only [List.filter_cons, List.length_cons]
    cases q.isPrefixOf f.1 <;> simp <;> omega
/-- What FileCleans asks. -/
structure AskC (was now : List (By × By)) (q : By) (E : Int) (strokes : Nat) : Prop where
  none : E = 0 → (rest q was).length = was.length → now = rest q was ∧ strokes = 0
  done : E = 0 → (rest q was).length ≠ was.length → now = rest q was ∧ strokes + (rest q was).length = was.length + 1
  cut : E = 50 → (rest q was).length ≠ was.length ∧ rest q now = rest q was ∧ ∃ ns : List By, now = was.filter (fun f => !ns.contains f.1)
  all : E = 0 ∨ E = 50
theorem clean_asks {S D : Ds} {q : By} {E : Int} (hs : AllSafe S) (hon : S.on = true) (h0 : S.strokes = 0) (h : CleanR S q E D) (ps : List Int) : AskC S.files (D.crash ps).files q E D.strokes := by
  have hl := list_len hon q
  rcases h with ⟨h1, rfl, h2⟩ | ⟨h1, rfl, h2⟩ | ⟨h1, rfl, j, h2⟩
  · rw [h1] at hl
    have hr : rest q S.files = S.files := by rw [← rest_of hon, h1]; simp
    have e : D.crashNm ps = S.shown := by
      unfold Ds.crashNm
      rw [h2.row, h2.safe, hs.row, hs.safe]
      simp [runN]
    have hc : (D.crash ps).files = S.files := by
      rw [crash_of2 ps (by rw [e, h2.th]; intro p hp; exact hs.th p hp), e, h2.th]
      rfl
    exact ⟨fun _ _ => ⟨by rw [hc, hr], by rw [h2.strokes, h0]; rfl⟩, fun _ hne => absurd (by rw [hr]) hne, fun h => absurd h (by decide), .inl rfl⟩
  · have hp := List.length_pos_iff.2 h1
    have e : D.crashNm ps = dels S.shown (S.list q) := by
      unfold Ds.crashNm
      rw [h2.row, h2.safe, List.take_nil]
      rfl
    have hc : (D.crash ps).files = rest q S.files := by
      rw [crash_of2 ps (by rw [e, h2.th]; intro p hp; exact hs.th p (List.mem_filter.1 hp).1), e, h2.th, files_dels]
      exact rest_of hon q
    refine ⟨fun _ hne => (by omega), fun _ _ => ⟨hc, ?_⟩, fun h => absurd h (by decide), .inl rfl⟩
    rw [h2.strokes]
    omega
  · have hp := List.length_pos_iff.2 h1
    obtain ⟨ns, e, hns⟩ : ∃ ns : List By, D.crashNm ps = dels S.shown ns ∧ ∀ n ∈ ns, n ∈ S.list q := by
      unfold Ds.crashNm
      rw [h2.row, h2.safe, hs.row, hs.safe, List.nil_append, ← List.map_take, runN_tks]
      exact ⟨_, rfl, fun n hn => List.mem_of_mem_take (List.mem_of_mem_take hn)⟩
    have hc : (D.crash ps).files = S.files.filter (fun f => !ns.contains f.1) := by
      rw [crash_of2 ps (by rw [e, h2.th]; intro p hp; exact hs.th p (List.mem_filter.1 hp).1), e, h2.th, files_dels]
      rfl
    refine ⟨fun h => absurd h (by decide), fun h => absurd h (by decide), fun _ => ⟨by omega, ?_, ns, hc⟩, .inr rfl⟩
    rw [hc]
    unfold rest
    rw [List.filter_filter]
    apply List.filter_congr
    intro f hf
    cases hq : q.isPrefixOf f.1 with
    | true => rfl
    | false =>
      have : ns.contains f.1 = false := by
        rw [Bool.eq_false_iff, ne_eq, List.contains_iff_mem]
        intro hm
        have := ((list_mem hon).1 (hns _ hm)).2
        rw [hq] at this; cases this
      show (!false && !ns.contains f.1) = !false
      rw [this]; rfl
end Dsk
end

section
open Go.RowKit Dsk
set_option linter.unusedVariables false
set_option linter.unusedSimpArgs false

theorem list_ax {X : Nat → Prop} {wa w : World} {p : Nat} {S : Ds} {N : Nat} (h : Ax X wa w p S N) (hN : N ≤ 268435456) (q : By) (hq : q.length ≤ 4611686018427387904) : Calls Tryz.prog 72 #[.pointer (some ⟨p, 0, none⟩), encStr q] w fun e w' => ∃ v, e = .returned v ∧ w'.ownsRow 0 9 1 v (S.list q).length ((S.list q).map encStr) ∧ (∀ g, v.ownBlock = some g → w.heap.size ≤ g) ∧ Kept [] w w' := by
  obtain ⟨A, o, hP, ho, hw, hb⟩ := h
  exact list_ok hP hb hN q hq
namespace Dsk

theorem Nm.Up.nodup {l : Nm} (h : l.Up) : l.keys.Nodup := by
  unfold Nm.keys
  rw [List.nodup_iff_pairwise_ne, List.pairwise_map]
  exact h.imp (fun hb e => by rw [e, before_irrefl] at hb; cases hb)

theorem Ds.Wf.list_nodup {S : Ds} (h : S.Wf) (q : By) : (S.list q).Nodup := by
  unfold Ds.list
  split
  · exact (Nm.Up.nodup (by rw [h.shown]; exact runN_up h.up _)).filter _
  · exact List.nodup_nil

theorem Ds.Wf.list_nm {S : Ds} (h : S.Wf) (hon : S.on = true) {q n : By} (hn : n ∈ S.list q) : isNm n = true ∧ n ∈ S.shown.keys := by
  have h1 := ((list_mem hon).1 hn).1
  obtain ⟨p, hp, rfl⟩ := List.mem_map.1 h1
  exact ⟨h.snm p hp, h1⟩

theorem take_not {l : List By} (h : l.Nodup) {k : Nat} {n : By} (hk : l[k]? = some n) : n ∉ l.take k := by
  intro hm
  obtain ⟨i, hi, e⟩ := List.mem_iff_getElem.1 hm
  simp only [List.length_take] at hi
  have h1 : l[i]? = some n := by rw [← e, List.getElem_take]; exact List.getElem?_eq_getElem _
  have := (List.getElem?_inj (by omega : i < l.length) h).1 (h1.trans hk.symm)
  omega

theorem Ds.Bd.list_len {S : Ds} {N : Nat} (h : S.Bd N) (hw : S.Wf) (q : By) : (S.list q).length ≤ N := by
  unfold Ds.list
  split
  · refine Nat.le_trans (List.length_filter_le _ _) ?_
    have := h.shown hw
    simpa [Nm.keys] using this
  · simp

theorem isNm_len {n : By} (h : isNm n = true) : n.length ≤ 112 := by
  simp only [isNm, Bool.and_eq_true, decide_eq_true_eq] at h
  exact h.1.2

end Dsk
end

section
open Go.RowKit Dsk
set_option linter.unusedVariables false
set_option linter.unusedSimpArgs false
theorem Ax.back {X : Nat → Prop} {wa w w1 w3 : World} {p : Nat} {S D : Ds} {N M : Nat} (h : Ax X wa w p S N) (hk : Kept [] w w1) (h3 : Ax (More X w w1) w1 w3 p D M) : Ax X wa w3 p D M := by
  obtain ⟨A, o, _, ho, hw, _⟩ := h
  obtain ⟨A', o', hP, ho', hw', hb⟩ := h3
  exact ⟨A', o', hP, fun b hb => ⟨(ho' b (.inl hb)).1, (ho b hb).2⟩, (hw.kept hk).trans hw' (fun b hn _ hx => hn (.inl hx)), hb⟩

set_option maxHeartbeats 3200000 in
set_option maxRecDepth 100000 in
theorem clean_new {X : Nat → Prop} {wa w : World} {p : Nat} {S : Ds} {N : Nat} (h : Ax X wa w p S N) (hN : N ≤ 80000000) (hon : S.on = true) (q : By) (hq : q.length ≤ 4611686018427387900) :
    Calls Tryz.prog 27 #[.pointer (some ⟨p, 0, none⟩), encStr q] w fun e w' => ∃ v w3 E D, e = .returned v ∧ ErrV w' v opClean q E ∧ CleanR S q E D ∧ Ax X wa w3 p D (3 * N + 3) ∧ Kept [] w3 w' ∧ NewE w3 v := by
  have hof := off_ax h
  rw [hon] at hof
  have hls := list_ax h (by omega) q (by omega)
  have HA := hide h
  have HON := hide hon
  have HB : Hid ((S.list q).length ≤ N) := hide (h.bd.list_len h.wf q)
  have HND : Hid ((S.list q).Nodup) := hide (h.wf.list_nodup q)
  have HNM : Hid (∀ n ∈ S.list q, isNm n = true ∧ n ∈ S.shown.keys) := hide (fun n hn => h.wf.list_nm hon hn)
  obtain ⟨ns, hns⟩ : ∃ ns, S.list q = ns := ⟨_, rfl⟩
  rw [hns] at hls HB HND HNM
  have HNS := hide hns
  clear h hon hns
  go_enter Tryz.func27, Tryz.ntmps27
  go_wp2
  refine wp_scope_straight ?_
  go_wp2_with (go_at_call 25; refine hof.mono ?_; rintro e w' ⟨rfl, hww⟩; obtain rfl := hww.symm; clear hof)
  refine wp_label ?_
  go_upto_region 5 with (go_at_call 72; refine hls.mono ?_; rintro e w1 ⟨v, rfl, hr, hnew, hk1⟩; clear hls; obtain ⟨ro, rc, rfl, hrc⟩ := own_shape hr; have HR := hide hr; have HNW := hide hnew; have HK1 := hide hk1; clear hr hnew hk1)
  have HA1 := hide (HA.out.more HK1.out)
  have HROW : Hid (∀ k n, ns[k]? = some n → ∃ g, ro = some ⟨g, 0, none⟩ ∧ More X w w1 g ∧ w1.cell? ⟨g, k, none⟩ = some (encStr n)) := hide (fun k n hk => by
    have hi := (List.getElem?_eq_some_iff.1 hk).1
    rcases HR.out.2 with ⟨e, e2⟩ | ⟨g, cap, cur, e2, _⟩
    · omega
    · have hgl := HR.out.lt g (by rw [e2]; rfl)
      have hnw := HNW.out g (by rw [e2]; rfl)
      injection e2 with e2 _ _
      subst e2
      refine ⟨g, rfl, .inr ⟨hnw, hgl.2⟩, ?_⟩
      have := HR.out.cells (g := g) rfl k (encStr n) (by rw [List.getElem?_map, hk]; rfl)
      rwa [add0] at this)
  obtain ⟨m, hm⟩ : ∃ m, ns.length = m := ⟨_, rfl⟩
  rw [hm]
  have hmN : m ≤ N := by rw [← hm]; exact HB.out
  have HM := hide hm
  clear HR HNW HB hm hrc
  go_loopw [5, 6, 17] (fun y5 y6 y17 wr => ∃ (k : Nat) (D : Ds), k ≤ m ∧ y5 = .int .i64 0 ∧ y6 = .int .i64 k ∧ y17 = .int .i64 k ∧ Hid (Dsk.Cl S (ns.take k) D ∧ Ax (More X w w1) w1 wr p D (N + 2 * k))) (fun y5 y6 y17 wr => m - (intOf y17).toNat)
  case atStart => exact ⟨0, S, Nat.zero_le _, rfl, rfl, rfl, hide ⟨Dsk.Cl.start HON.out, HA1.out⟩⟩
  case round =>
    clear HA1
    obtain ⟨k, D, hk, rfl, rfl, rfl, HL⟩ := hrel
    by_cases hlt : k < m
    · have hkl : k < ns.length := by rw [HM.out]; exact hlt
      obtain ⟨nm, hnm⟩ : ∃ nm, ns[k]? = some nm := ⟨_, List.getElem?_eq_getElem hkl⟩
      obtain ⟨g, rfl, hYg, hc⟩ := HROW.out k nm hnm
      have c0 := HL.out.2.old.cellOf hc (fun hn => hn hYg)
      have hmem := HNM.out nm (List.mem_of_getElem? hnm)
      have hst := HL.out.1.step hmem.1 hmem.2 (take_not HND.out hnm)
      have htk : ns.take (k + 1) = ns.take k ++ [nm] := by rw [List.take_add_one, hnm]; rfl
      rw [← htk] at hst
      have hrm := remove_ax HL.out.2 (by omega) nm (by have := isNm_len hmem.1; omega)
      clear hc hYg hmem htk hkl hnm
      rcases hst with ⟨h1, h2⟩ | ⟨h1, h2⟩
      · rw [h1] at hrm
        generalize (D.remove nm).2 = D2 at h2 hrm
        have H2 := hide h2
        clear h1 h2 HL
        go_wp2_with (go_at_call 46; refine hrm.mono ?_; rintro e w2 ⟨rfl, hA2⟩; have HA2 := hide hA2; clear hrm hA2 c0)
        go_roundw
        case rel => exact ⟨k + 1, D2, by omega, rfl, by go_num, by go_num, hide ⟨H2.out, HA2.out.mono (by omega)⟩⟩
        case measure => simp [intOf]; omega
      · rw [h1] at hrm
        generalize (D.remove nm).2 = D2 at h2 hrm
        have H2 := hide h2
        clear h1 h2 HL
        go_wp2_with (first
          | (go_at_call 46; refine hrm.mono ?_; rintro e w2 ⟨rfl, hA2⟩; have HA2 := hide hA2; clear hrm hA2 c0)
          | (go_at_call 63; refine (fault_new opClean q _ _).mono ?_; rintro e w3 ⟨v, rfl, hv⟩; have HV := hide hv; clear hv))
        unfold Exit.noGoto
        refine bodyPost_ret (results_tmp rfl _ _ _) rfl ?_
        refine ⟨_, _, 50, D2, rfl, HV.out.1, .inr (.inr ⟨?_, rfl, k + 1, ?_⟩), (HA.out.back HK1.out HA2.out).mono (by omega), HV.out.2.1, HV.out.2.2⟩
        · rw [HNS.out]; intro e; have := HM.out; rw [e] at this; simp at this; omega
        · rw [HNS.out]; exact H2.out
    · have hkm : k = m := by omega
      subst hkm
      have htk : ns.take k = ns := List.take_of_length_le (by rw [HM.out]; exact Nat.le_refl _)
      by_cases h0 : k = 0
      · subst h0
        have hnil : S.list q = [] := by rw [HNS.out]; exact List.eq_nil_of_length_eq_zero HM.out
        have hDS : Hid (Dsk.Cl S [] D) := hide (by have := HL.out.1; rwa [List.take_zero] at this)
        have HNIL := hide hnil
        clear hnil htk
        go_wp2_with (go_at_call 63; refine (fault_new opClean q _ _).mono ?_; rintro e w3 ⟨v, rfl, hv⟩; have HV := hide hv; clear hv)
        unfold Exit.noGoto
        refine bodyPost_ret (results_tmp rfl _ _ _) rfl ?_
        exact ⟨_, _, 0, D, rfl, HV.out.1, .inl ⟨HNIL.out, rfl, hDS.out⟩, (HA.out.back HK1.out HL.out.2).mono (by omega), HV.out.2.1, HV.out.2.2⟩
      · have hpos : (0 : Int) < (k : Int) := by omega
        have hcs := HL.out.1.sync
        rw [htk] at hcs
        have hsn := syncNames_ax HL.out.2 (by omega)
        have HNE : Hid (S.list q ≠ []) := hide (by rw [HNS.out]; intro e; have := HM.out; rw [e] at this; simp at this; omega)
        clear htk
        rcases hcs with ⟨h1, h2⟩ | ⟨h1, h2⟩
        · rw [h1] at hsn
          generalize D.syncNames.2 = D2 at h2 hsn
          have H2 := hide h2
          clear h1 h2 HL
          go_wp2_with (first
            | (go_at_call 50; refine hsn.mono ?_; rintro e w2 ⟨rfl, hA2⟩; have HA2 := hide hA2; clear hsn hA2)
            | (go_at_call 63; refine (fault_new opClean q _ _).mono ?_; rintro e w3 ⟨v, rfl, hv⟩; have HV := hide hv; clear hv))
          unfold Exit.noGoto
          refine bodyPost_ret (results_tmp rfl _ _ _) rfl ?_
          refine ⟨_, _, 0, D2, rfl, HV.out.1, .inr (.inl ⟨HNE.out, rfl, ?_⟩), (HA.out.back HK1.out HA2.out).mono (by omega), HV.out.2.1, HV.out.2.2⟩
          rw [HNS.out]; exact H2.out
        · rw [h1] at hsn
          generalize D.syncNames.2 = D2 at h2 hsn
          have H2 := hide h2
          clear h1 h2 HL
          go_wp2_with (first
            | (go_at_call 50; refine hsn.mono ?_; rintro e w2 ⟨rfl, hA2⟩; have HA2 := hide hA2; clear hsn hA2)
            | (go_at_call 63; refine (fault_new opClean q _ _).mono ?_; rintro e w3 ⟨v, rfl, hv⟩; have HV := hide hv; clear hv))
          unfold Exit.noGoto
          refine bodyPost_ret (results_tmp rfl _ _ _) rfl ?_
          refine ⟨_, _, 50, D2, rfl, HV.out.1, .inr (.inr ⟨HNE.out, rfl, ns.length, ?_⟩), (HA.out.back HK1.out HA2.out).mono (by omega), HV.out.2.1, HV.out.2.2⟩
          rw [HNS.out, List.take_length]; exact H2.out
end

section
open Go.RowKit Dsk
set_option linter.unusedVariables false
set_option linter.unusedSimpArgs false
/-- Files; they and their bytes lie in blocks of Z. -/
def Fisz (w : World) (Z : Nat → Prop) (ao : Option Addr) (L : List (By × By)) : Prop := ∀ i, i < L.length → ∃ b, ao = some ⟨b, 0, none⟩ ∧ Z b ∧ ∃ f : By × By, L[i]? = some f ∧ w.cell? ⟨b, i * 2, none⟩ = some (encStr f.1) ∧ ∃ bo bc, w.cell? ⟨b, i * 2 + 1, none⟩ = some (.slice bo f.2.length bc) ∧ Sl w bo f.2 ∧ (f.2 ≠ [] → ∀ a, bo = some a → Z a.block)
theorem Fisz.fis {w : World} {Z : Nat → Prop} {ao : Option Addr} {L : List (By × By)} (h : Fisz w Z ao L) : Fis w ao L := fun i hi => by
  obtain ⟨b, e, _, f, hf, c1, bo, bc, c2, hs, _⟩ := h i hi
  exact ⟨b, e, f, hf, c1, bo, bc, c2, hs⟩
theorem Fisz.keep {w w' : World} {Z F : Nat → Prop} {ao : Option Addr} {L : List (By × By)} (h : Fisz w Z ao L) (hk : Keep F w w') (hF : ∀ b, Z b → ¬ F b) : Fisz w' Z ao L := fun i hi => by
  obtain ⟨b, e, hz, f, hf, c1, bo, bc, c2, hs, hb⟩ := h i hi
  exact ⟨b, e, hz, f, hf, hk.cellOf c1 (hF b hz), bo, bc, hk.cellOf c2 (hF b hz), hs.keep hk (fun hne a ha => hF _ (hb hne a ha)), hb⟩
theorem Fisz.kept {w w' : World} {Z : Nat → Prop} {ao : Option Addr} {L : List (By × By)} (h : Fisz w Z ao L) (hk : Kept [] w w') : Fisz w' Z ao L := h.keep (Keep.ofNone (F := fun _ => False) hk) (fun _ _ h => h)
theorem Fisz.wide {w : World} {Z Y : Nat → Prop} {ao : Option Addr} {L : List (By × By)} (h : Fisz w Z ao L) (hY : ∀ b, Z b → Y b) : Fisz w Y ao L := fun i hi => by
  obtain ⟨b, e, hz, f, hf, c1, bo, bc, c2, hs, hb⟩ := h i hi
  exact ⟨b, e, hY b hz, f, hf, c1, bo, bc, c2, hs, fun hne a ha => hY _ (hb hne a ha)⟩
theorem Fisz.of {w : World} {B : Nat} {ao : Option Addr} {n c : Nat} {L : List (By × By)} {vs : List Value} (h : Fls w B (.slice ao n c) L vs) : Fisz w (fun b => B ≤ b ∧ b < w.heap.size) ao L ∧ n = L.length := by
  refine ⟨fun i hi => ?_, (Fis.of h).2⟩
  have hv : i < vs.length := by rw [h.len]; exact hi
  obtain ⟨q1, q2⟩ := fcells_get L vs i _ _ h.len (List.getElem?_eq_getElem hi) (List.getElem?_eq_getElem hv)
  have hb := h.own i _ _ (List.getElem?_eq_getElem hi) (List.getElem?_eq_getElem hv)
  have hnew := fun (g : Nat) (hg : vs[i].ownBlock = some g) => h.new vs[i] (List.getElem_mem hv) g hg
  have hlt := fun (g : Nat) (hg : vs[i].ownBlock = some g) => h.val_lt (u := vs[i]) (List.getElem_mem hv) (g := g) hg
  have hsh : ∃ bo bc, vs[i] = .slice bo L[i].2.length bc ∧ ∀ a, bo = some a → vs[i].ownBlock = some a.block := by
    rcases hb.2 with ⟨e, e2⟩ | ⟨g, cap, cur, fr, e, _⟩
    · exact ⟨none, 0, by rw [e, e2], fun a ha => by cases ha⟩
    · exact ⟨some ⟨g, 0, none⟩, cap, e, fun a ha => by cases ha; rw [e]; rfl⟩
  obtain ⟨bo, bc, e, hob⟩ := hsh
  rw [e] at q2 hb
  rcases h.row.2 with ⟨e, e2⟩ | ⟨g, cap, cur, e2, hg⟩
  · omega
  · have hgl := h.row.lt g (by rw [e2]; rfl)
    injection e2 with e2 _ _
    subst e2
    refine ⟨g, rfl, hgl, _, List.getElem?_eq_getElem hi, ?_, bo, bc, ?_, hb.sl, fun _ a ha => ⟨hnew _ (hob a ha), hlt _ (hob a ha)⟩⟩
    · have := h.row.cells (g := g) rfl _ _ q1
      rwa [add0] at this
    · have := h.row.cells (g := g) rfl _ _ q2
      rwa [add0] at this
/-- A list of files that is being made, whose bytes lie in Z. -/
structure Rowz (Z : Nat → Prop) (w wr : World) (v : Value) (L : List (By × By)) (vs : List Value) : Prop where
  rf : Rowf w wr v L vs
  loc : ∀ u ∈ vs, ∀ bo m bc, u = .slice bo m bc → m ≠ 0 → ∀ a, bo = some a → Z a.block
theorem Rowz.start (Z : Nat → Prop) (w : World) : Rowz Z w w (.slice none 0 0) [] [] := ⟨Rowf.start w, by simp⟩
theorem Rowz.mono {Z : Nat → Prop} {w wr wr' : World} {v : Value} {L : List (By × By)} {vs : List Value} (h : Rowz Z w wr v L vs) (hk : Kept [] wr wr') : Rowz Z w wr' v L vs := ⟨h.rf.mono hk, h.loc⟩
theorem Rowz.app {Z : Nat → Prop} {w wr : World} {fo : Option Addr} {m fc : Nat} {L : List (By × By)} {vs : List Value} {x d : By} {bo : Option Addr} {bc : Nat} (h : Rowz Z w wr (.slice fo m fc) L vs) (hm : m ≤ 1048576) (hs : Sl w bo d) (hz : d ≠ [] → ∀ a, bo = some a → Z a.block) :
    ∃ g c w5, (Builtin.append_ #[36, 36] 36 #[.slice fo m fc, .slice (some ⟨wr.heap.size, 0, none⟩) 1 1]).run Tryz.prog (wr.alloc (.cells #[encStr x, .slice bo d.length bc] 88)) = .ok (.slice (some ⟨g, 0, none⟩) (m + 1) c) w5 ∧ Hid (∃ vs', Rowz Z w w5 (.slice (some ⟨g, 0, none⟩) (m + 1) c) (L ++ [(x, d)]) vs') := by
  obtain ⟨g, c, w5, e1, e2⟩ := h.rf.app2 (x := x) (d := d) (bo := bo) (bc := bc) hm hs
  refine ⟨g, c, w5, e1, hide ⟨_, e2, fun u hu bo' m' bc' he hne a ha => ?_⟩⟩
  rcases List.mem_append.1 hu with hu | hu
  · exact h.loc u hu bo' m' bc' he hne a ha
  · simp only [List.mem_singleton] at hu
    rw [hu] at he
    cases he
    exact hz (fun e => hne (by rw [e]; rfl)) a ha
theorem Rowz.fisz {Z : Nat → Prop} {w wr : World} {ao : Option Addr} {n c : Nat} {L : List (By × By)} {vs : List Value} (h : Rowz Z w wr (.slice ao n c) L vs) : Fisz wr (fun b => Z b ∨ (w.heap.size ≤ b ∧ b < wr.heap.size)) ao L ∧ n = L.length := by
  refine ⟨fun i hi => ?_, (h.rf.fis (Kept.refl [] wr)).2⟩
  have hv : i < vs.length := by rw [h.rf.len]; exact hi
  obtain ⟨q1, q2⟩ := fcells_get L vs i _ _ h.rf.len (List.getElem?_eq_getElem hi) (List.getElem?_eq_getElem hv)
  obtain ⟨bo, bc, e, hs⟩ := h.rf.sl i _ _ (List.getElem?_eq_getElem hi) (List.getElem?_eq_getElem hv)
  have hl := fun hne => h.loc vs[i] (List.getElem_mem hv) bo _ bc e hne
  rw [e] at q2
  rcases h.rf.row.2 with ⟨e, e2⟩ | ⟨g, cap, cur, e2, hg⟩
  · omega
  · have hgl := h.rf.row.lt g (by rw [e2]; rfl)
    injection e2 with e2 _ _
    subst e2
    refine ⟨g, rfl, .inr hgl, _, List.getElem?_eq_getElem hi, ?_, bo, bc, ?_, hs.kept h.rf.kept (by simp), fun hne a ha => .inl (hl (fun e => hne (List.eq_nil_of_length_eq_zero e)) a ha)⟩
    · have := h.rf.row.cells (g := g) rfl _ _ q1
      rwa [add0] at this
    · have := h.rf.row.cells (g := g) rfl _ _ q2
      rwa [add0] at this
theorem rest_take (q : By) (L : List (By × By)) (k : Nat) (f : By × By) (h : L[k]? = some f) : rest q (L.take (k + 1)) = rest q (L.take k) ++ (if q.isPrefixOf f.1 = true then [] else [f]) := by
  rw [List.take_add_one, h]
  unfold rest
  rw [List.filter_append]
  congr 1
  by_cases h1 : q.isPrefixOf f.1 = true
  · simp [h1]
  · have h2 : q.isPrefixOf f.1 = false := Bool.eq_false_iff.2 h1
    simp [h2]
end

end Go.Proofs.YtemlbmamcbmnjaaGreatDoor
