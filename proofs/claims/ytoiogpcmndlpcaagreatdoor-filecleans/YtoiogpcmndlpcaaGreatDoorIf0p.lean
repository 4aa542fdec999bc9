import Derived.Test.YtoiogpcmndlpcaaGreatDoorId1p
import Derived.Test.YtoiogpcmndlpcaaGreatDoorFap
import Derived.Test.YtoiogpcmndlpcaaGreatDoorFogp
namespace Go.Proofs.YtoiogpcmndlpcaaGreatDoor
section
open Go.RowKit Dsk
set_option linter.unusedVariables false
set_option linter.unusedSimpArgs false
theorem Fls.keep {F : Nat → Prop} {w w' : World} {B : Nat} {v : Value} {L : List (By × By)} {vs : List Value} (h : Fls w B v L vs) (hk : Keep F w w') (h1 : ∀ g, v.ownBlock = some g → ¬ F g) (h2 : ∀ u ∈ vs, ∀ g, u.ownBlock = some g → ¬ F g) : Fls w' B v L vs :=
  ⟨h.len, own_keeps h.row hk h1, fun i f u hf hu => (h.own i f u hf hu).keep hk (h2 u (List.mem_of_getElem? hu)), h.new, h.apart⟩
theorem Fls.base {w : World} {B B' : Nat} {v : Value} {L : List (By × By)} {vs : List Value} (h : Fls w B v L vs) (hb : B' ≤ B) : Fls w B' v L vs :=
  ⟨h.len, ownsRow_base_a h.row hb, h.own, fun u hu g hg => Nat.le_trans hb (h.new u hu g hg), h.apart⟩
theorem PD.lim {w : World} {p : Nat} {S : Ds} {A : Nat → Nat} {o : Lab} (h : PD w p S A o) {b : Nat} (hb : o b ≠ 0) : b < w.heap.size := by
  obtain ⟨_, _, _, _, hx⟩ := h
  exact hx.lim b hb
theorem keep0 {w0 wr : World} {w' : World} {o : Lab} (hn : ∀ b, o b ≠ 0 → w0.heap.size ≤ b) (hk : Kept [] w0 wr) (hK : Keep o.mine wr w') : Kept [] w0 w' :=
  ⟨hK.os.trans hk.os, hK.tape.trans hk.tape, hK.output.trans hk.output, Nat.le_trans hk.size hK.size, fun i hi _ => (hK.block i (Nat.lt_of_lt_of_le hi hk.size) (fun hm => by have := hn i hm; omega)).trans (hk.block i hi (by simp))⟩
end

section
open Go.RowKit Dsk
set_option linter.unusedVariables false
set_option linter.unusedSimpArgs false
namespace Dsk
/-- The names but these. -/
def dels (l : Nm) (ns : List By) : Nm := l.filter (fun p => !ns.contains p.1)
theorem dels_nil (l : Nm) : dels l [] = l := by simp [dels]
theorem dels_cons (l : Nm) (n : By) (ns : List By) : dels (l.del n) ns = dels l (n :: ns) := by
  unfold dels Nm.del
  rw [List.filter_filter]
  apply List.filter_congr
  intro p _
  simp only [List.contains_cons, Bool.not_or]
  cases p.1 == n <;> simp
theorem dels_snoc (l : Nm) (ns : List By) (n : By) : (dels l ns).del n = dels l (ns ++ [n]) := by
  unfold dels Nm.del
  rw [List.filter_filter]
  apply List.filter_congr
  intro p _
  rw [Bool.eq_iff_iff]
  simp [and_comm]
theorem runN_tks (l : Nm) (ns : List By) : runN l (ns.map .tk) = dels l ns := by
  induction ns generalizing l with
  | nil => rw [dels_nil]; rfl
  | cons n r ih =>
    show runN (l.del n) (r.map .tk) = _
    rw [ih, dels_cons]
theorem dels_get {l : Nm} {ns : List By} {n : By} (h : n ∈ l.keys) (hn : n ∉ ns) : ∃ k, (dels l ns).get n = some k := by
  obtain ⟨p, hp, rfl⟩ := List.mem_map.1 h
  unfold Nm.get
  cases hf : (dels l ns).find? (fun q => q.1 == p.1) with
  | some q => exact ⟨q.2, rfl⟩
  | none => exact absurd (List.find?_eq_none.1 hf p (List.mem_filter.2 ⟨hp, by simpa using hn⟩)) (by simp)
/-- So many names were taken. -/
structure Cl (S : Ds) (ns : List By) (D : Ds) : Prop where
  on : D.on = true
  strokes : D.strokes = S.strokes + ns.length
  safe : D.safe = S.safe
  row : D.row = S.row ++ ns.map .tk
  shown : D.shown = dels S.shown ns
  th : D.th = S.th
/-- The power went off. -/
structure Ct (S : Ds) (ns : List By) (D : Ds) : Prop where
  on : D.on = false
  safe : D.safe = S.safe
  row : D.row = S.row ++ ns.map .tk
  th : D.th = S.th
/-- It is done. -/
structure Dn (S : Ds) (ns : List By) (D : Ds) : Prop where
  strokes : D.strokes = S.strokes + ns.length + 1
  safe : D.safe = dels S.shown ns
  row : D.row = []
  th : D.th = S.th
theorem Cl.start {S : Ds} (h : S.on = true) : Cl S [] S := ⟨h, rfl, rfl, by simp, (dels_nil _).symm, rfl⟩
theorem Cl.step {S D : Ds} {ns : List By} {n : By} (h : Cl S ns D) (hm : isNm n = true) (hk : n ∈ S.shown.keys) (hn : n ∉ ns) :
    ((D.remove n).1 = 0 ∧ Cl S (ns ++ [n]) (D.remove n).2) ∨ ((D.remove n).1 = 50 ∧ Ct S (ns ++ [n]) (D.remove n).2) := by
  obtain ⟨k, hg⟩ := dels_get hk hn
  rw [← h.shown] at hg
  have er : D.remove n = (D.ans 0, D.tick.addName (.tk n)) := by simp [Ds.remove, Ds.find, hm, h.on, hg]
  rw [er]
  by_cases g : D.goesOff = true
  · exact .inr ⟨by simp [Ds.ans, g], by simp [Ds.addName, Ds.tick, g], h.safe, by show D.row ++ [.tk n] = _; rw [h.row]; simp, h.th⟩
  · have g' : D.goesOff = false := by simpa using g
    exact .inl ⟨by simp [Ds.ans, g'], by simp [Ds.addName, Ds.tick, g', h.on], by show D.strokes + 1 = _; rw [h.strokes]; simp; omega, h.safe, by show D.row ++ [.tk n] = _; rw [h.row]; simp, by show D.shown.del n = _; rw [h.shown, dels_snoc], h.th⟩
theorem Cl.sync {S D : Ds} {ns : List By} (h : Cl S ns D) : (D.syncNames.1 = 0 ∧ Dn S ns D.syncNames.2) ∨ (D.syncNames.1 = 50 ∧ Ct S ns D.syncNames.2) := by
  by_cases g : D.goesOff = true
  · have e : D.syncNames = (50, D.tick) := by simp [Ds.syncNames, h.on, g]
    rw [e]
    exact .inr ⟨rfl, by simp [Ds.tick, g], h.safe, h.row, h.th⟩
  · have g' : D.goesOff = false := by simpa using g
    have e : D.syncNames = (0, { D.tick with safe := D.shown, row := [] }) := by simp [Ds.syncNames, h.on, g', Ds.tick]
    rw [e]
    exact .inl ⟨rfl, by show D.strokes + 1 = _; rw [h.strokes], h.shown, rfl, h.th⟩
/-- What Clean does, by its answer. -/
def CleanR (S : Ds) (q : By) (E : Int) (D : Ds) : Prop :=
  (S.list q = [] ∧ E = 0 ∧ Cl S [] D) ∨ (S.list q ≠ [] ∧ E = 0 ∧ Dn S (S.list q) D) ∨ (S.list q ≠ [] ∧ E = 50 ∧ ∃ j, Ct S ((S.list q).take j) D)
theorem crash_of2 {S : Ds} (ps : List Int) (h : ∀ p ∈ S.crashNm ps, (S.th p.2).still) : (S.crash ps).files = (S.crashNm ps).map (fun p => (p.1, (S.th p.2).shown)) := by
  show (S.crashNm ps).map (fun p => (p.1, (Ds.crashTh ps 0 (S.crashNm ps) S.th p.2).shown)) = _
  apply List.map_congr_left
  intro p hp
  rw [crashTh_still]
  intro k hk
  obtain ⟨q, hq, rfl⟩ := List.mem_map.1 hk
  exact h q hq
theorem files_dels (l : Nm) (th : Nat → Th) (ns : List By) : (dels l ns).map (fun p => (p.1, (th p.2).shown)) = (l.map (fun p => (p.1, (th p.2).shown))).filter (fun f => !ns.contains f.1) := by
  unfold dels
  rw [List.filter_map]
  rfl
/-- The files that do not begin so. -/
def rest (q : By) (l : List (By × By)) : List (By × By) := l.filter (fun f => !q.isPrefixOf f.1)
theorem list_mem {S : Ds} (hon : S.on = true) {q n : By} : n ∈ S.list q ↔ n ∈ S.shown.keys ∧ q.isPrefixOf n = true := by simp [Ds.list, hon]
theorem keys_files (S : Ds) {f : By × By} (h : f ∈ S.files) : f.1 ∈ S.shown.keys := by
  obtain ⟨p, hp, rfl⟩ := List.mem_map.1 h
  exact List.mem_map.2 ⟨p, hp, rfl⟩
theorem rest_of {S : Ds} (hon : S.on = true) (q : By) : S.files.filter (fun f => !(S.list q).contains f.1) = rest q S.files := by
  apply List.filter_congr
  intro f hf
  congr 1
  rw [Bool.eq_iff_iff]
  simp only [List.contains_iff_mem, list_mem hon, keys_files S hf, true_and]
theorem list_len {S : Ds} (hon : S.on = true) (q : By) : (S.list q).length + (rest q S.files).length = S.files.length := by
  have e : S.list q = (S.files.filter (fun f => q.isPrefixOf f.1)).map (·.1) := by
    have : S.shown.keys = S.files.map (·.1) := by simp [Nm.keys, Ds.files]
    simp only [Ds.list, hon, if_true, this]
    rw [List.filter_map]
    rfl
  rw [e, List.length_map]
  unfold rest
  generalize S.files = l
  induction l with
  | nil => rfl
  | cons f r ih =>
    simp only [List.filter_cons, List.length_cons]
    cases q.isPrefixOf f.1 <;> simp <;> omega
/-- What FileCleans asks. -/
structure AskC (was now : List (By × By)) (q : By) (E : Int) (strokes : Nat) : Prop where
  none : E = 0 → (rest q was).length = was.length → now = rest q was ∧ strokes = 0
  done : E = 0 → (rest q was).length ≠ was.length → now = rest q was ∧ strokes + (rest q was).length = was.length + 1
  cut : E = 50 → (rest q was).length ≠ was.length ∧ rest q now = rest q was ∧ ∃ ns : List By, now = was.filter (fun f => !ns.contains f.1)
  all : E = 0 ∨ E = 50
theorem clean_asks {S D : Ds} {q : By} {E : Int} (hs : AllSafe S) (hon : S.on = true) (h0 : S.strokes = 0) (h : CleanR S q E D) (ps : List Int) : AskC S.files (D.crash ps).files q E D.strokes := by
  have hl := list_len hon q
  rcases h with ⟨h1, rfl, h2⟩ | ⟨h1, rfl, h2⟩ | ⟨h1, rfl, j, h2⟩
  · rw [h1] at hl
    have hr : rest q S.files = S.files := by rw [← rest_of hon, h1]; simp
    have e : D.crashNm ps = S.shown := by
      unfold Ds.crashNm
      rw [h2.row, h2.safe, hs.row, hs.safe]
      simp [runN]
    have hc : (D.crash ps).files = S.files := by
      rw [crash_of2 ps (by rw [e, h2.th]; intro p hp; exact hs.th p hp), e, h2.th]
      rfl
    exact ⟨fun _ _ => ⟨by rw [hc, hr], by rw [h2.strokes, h0]; rfl⟩, fun _ hne => absurd (by rw [hr]) hne, fun h => absurd h (by decide), .inl rfl⟩
  · have hp := List.length_pos_iff.2 h1
    have e : D.crashNm ps = dels S.shown (S.list q) := by
      unfold Ds.crashNm
      rw [h2.row, h2.safe, List.take_nil]
      rfl
    have hc : (D.crash ps).files = rest q S.files := by
      rw [crash_of2 ps (by rw [e, h2.th]; intro p hp; exact hs.th p (List.mem_filter.1 hp).1), e, h2.th, files_dels]
      exact rest_of hon q
    refine ⟨fun _ hne => (by omega), fun _ _ => ⟨hc, ?_⟩, fun h => absurd h (by decide), .inl rfl⟩
    rw [h2.strokes]
    omega
  · have hp := List.length_pos_iff.2 h1
    obtain ⟨ns, e, hns⟩ : ∃ ns : List By, D.crashNm ps = dels S.shown ns ∧ ∀ n ∈ ns, n ∈ S.list q := by
      unfold Ds.crashNm
      rw [h2.row, h2.safe, hs.row, hs.safe, List.nil_append, ← List.map_take, runN_tks]
      exact ⟨_, rfl, fun n hn => List.mem_of_mem_take (List.mem_of_mem_take hn)⟩
    have hc : (D.crash ps).files = S.files.filter (fun f => !ns.contains f.1) := by
      rw [crash_of2 ps (by rw [e, h2.th]; intro p hp; exact hs.th p (List.mem_filter.1 hp).1), e, h2.th, files_dels]
      rfl
    refine ⟨fun h => absurd h (by decide), fun h => absurd h (by decide), fun _ => ⟨by omega, ?_, ns, hc⟩, .inr rfl⟩
    rw [hc]
    unfold rest
    rw [List.filter_filter]
    apply List.filter_congr
    intro f hf
    cases hq : q.isPrefixOf f.1 with
    | true => rfl
    | false =>
      have : ns.contains f.1 = false := by
        rw [Bool.eq_false_iff, ne_eq, List.contains_iff_mem]
        intro hm
        have := ((list_mem hon).1 (hns _ hm)).2
        rw [hq] at this; cases this
      show (!false && !ns.contains f.1) = !false
      rw [this]; rfl
end Dsk
end

section
open Go.RowKit Dsk
set_option linter.unusedVariables false
set_option linter.unusedSimpArgs false
/-- Files; they and their bytes lie in blocks of Z. -/
def Fisz (w : World) (Z : Nat → Prop) (ao : Option Addr) (L : List (By × By)) : Prop := ∀ i, i < L.length → ∃ b, ao = some ⟨b, 0, none⟩ ∧ Z b ∧ ∃ f : By × By, L[i]? = some f ∧ w.cell? ⟨b, i * 2, none⟩ = some (encStr f.1) ∧ ∃ bo bc, w.cell? ⟨b, i * 2 + 1, none⟩ = some (.slice bo f.2.length bc) ∧ Sl w bo f.2 ∧ (f.2 ≠ [] → ∀ a, bo = some a → Z a.block)
theorem Fisz.fis {w : World} {Z : Nat → Prop} {ao : Option Addr} {L : List (By × By)} (h : Fisz w Z ao L) : Fis w ao L := fun i hi => by
  obtain ⟨b, e, _, f, hf, c1, bo, bc, c2, hs, _⟩ := h i hi
  exact ⟨b, e, f, hf, c1, bo, bc, c2, hs⟩
theorem Fisz.keep {w w' : World} {Z F : Nat → Prop} {ao : Option Addr} {L : List (By × By)} (h : Fisz w Z ao L) (hk : Keep F w w') (hF : ∀ b, Z b → ¬ F b) : Fisz w' Z ao L := fun i hi => by
  obtain ⟨b, e, hz, f, hf, c1, bo, bc, c2, hs, hb⟩ := h i hi
  exact ⟨b, e, hz, f, hf, hk.cellOf c1 (hF b hz), bo, bc, hk.cellOf c2 (hF b hz), hs.keep hk (fun hne a ha => hF _ (hb hne a ha)), hb⟩
theorem Fisz.kept {w w' : World} {Z : Nat → Prop} {ao : Option Addr} {L : List (By × By)} (h : Fisz w Z ao L) (hk : Kept [] w w') : Fisz w' Z ao L := h.keep (Keep.ofNone (F := fun _ => False) hk) (fun _ _ h => h)
theorem Fisz.wide {w : World} {Z Y : Nat → Prop} {ao : Option Addr} {L : List (By × By)} (h : Fisz w Z ao L) (hY : ∀ b, Z b → Y b) : Fisz w Y ao L := fun i hi => by
  obtain ⟨b, e, hz, f, hf, c1, bo, bc, c2, hs, hb⟩ := h i hi
  exact ⟨b, e, hY b hz, f, hf, c1, bo, bc, c2, hs, fun hne a ha => hY _ (hb hne a ha)⟩
theorem Fisz.of {w : World} {B : Nat} {ao : Option Addr} {n c : Nat} {L : List (By × By)} {vs : List Value} (h : Fls w B (.slice ao n c) L vs) : Fisz w (fun b => B ≤ b ∧ b < w.heap.size) ao L ∧ n = L.length := by
  refine ⟨fun i hi => ?_, (Fis.of h).2⟩
  have hv : i < vs.length := by rw [h.len]; exact hi
  obtain ⟨q1, q2⟩ := fcells_get L vs i _ _ h.len (List.getElem?_eq_getElem hi) (List.getElem?_eq_getElem hv)
  have hb := h.own i _ _ (List.getElem?_eq_getElem hi) (List.getElem?_eq_getElem hv)
  have hnew := fun (g : Nat) (hg : vs[i].ownBlock = some g) => h.new vs[i] (List.getElem_mem hv) g hg
  have hlt := fun (g : Nat) (hg : vs[i].ownBlock = some g) => h.val_lt (u := vs[i]) (List.getElem_mem hv) (g := g) hg
  have hsh : ∃ bo bc, vs[i] = .slice bo L[i].2.length bc ∧ ∀ a, bo = some a → vs[i].ownBlock = some a.block := by
    rcases hb.2 with ⟨e, e2⟩ | ⟨g, cap, cur, fr, e, _⟩
    · exact ⟨none, 0, by rw [e, e2], fun a ha => by cases ha⟩
    · exact ⟨some ⟨g, 0, none⟩, cap, e, fun a ha => by cases ha; rw [e]; rfl⟩
  obtain ⟨bo, bc, e, hob⟩ := hsh
  rw [e] at q2 hb
  rcases h.row.2 with ⟨e, e2⟩ | ⟨g, cap, cur, e2, hg⟩
  · omega
  · have hgl := h.row.lt g (by rw [e2]; rfl)
    injection e2 with e2 _ _
    subst e2
    refine ⟨g, rfl, hgl, _, List.getElem?_eq_getElem hi, ?_, bo, bc, ?_, hb.sl, fun _ a ha => ⟨hnew _ (hob a ha), hlt _ (hob a ha)⟩⟩
    · have := h.row.cells (g := g) rfl _ _ q1
      rwa [add0] at this
    · have := h.row.cells (g := g) rfl _ _ q2
      rwa [add0] at this
/-- A list of files that is being made, whose bytes lie in Z. -/
structure Rowz (Z : Nat → Prop) (w wr : World) (v : Value) (L : List (By × By)) (vs : List Value) : Prop where
  rf : Rowf w wr v L vs
  loc : ∀ u ∈ vs, ∀ bo m bc, u = .slice bo m bc → m ≠ 0 → ∀ a, bo = some a → Z a.block
theorem Rowz.start (Z : Nat → Prop) (w : World) : Rowz Z w w (.slice none 0 0) [] [] := ⟨Rowf.start w, by simp⟩
theorem Rowz.mono {Z : Nat → Prop} {w wr wr' : World} {v : Value} {L : List (By × By)} {vs : List Value} (h : Rowz Z w wr v L vs) (hk : Kept [] wr wr') : Rowz Z w wr' v L vs := ⟨h.rf.mono hk, h.loc⟩
theorem Rowz.app {Z : Nat → Prop} {w wr : World} {fo : Option Addr} {m fc : Nat} {L : List (By × By)} {vs : List Value} {x d : By} {bo : Option Addr} {bc : Nat} (h : Rowz Z w wr (.slice fo m fc) L vs) (hm : m ≤ 1048576) (hs : Sl w bo d) (hz : d ≠ [] → ∀ a, bo = some a → Z a.block) :
    ∃ g c w5, (Builtin.append_ #[36, 36] 36 #[.slice fo m fc, .slice (some ⟨wr.heap.size, 0, none⟩) 1 1]).run Tryz.prog (wr.alloc (.cells #[encStr x, .slice bo d.length bc] 42)) = .ok (.slice (some ⟨g, 0, none⟩) (m + 1) c) w5 ∧ Hid (∃ vs', Rowz Z w w5 (.slice (some ⟨g, 0, none⟩) (m + 1) c) (L ++ [(x, d)]) vs') := by
  obtain ⟨g, c, w5, e1, e2⟩ := h.rf.app2 (x := x) (d := d) (bo := bo) (bc := bc) hm hs
  refine ⟨g, c, w5, e1, hide ⟨_, e2, fun u hu bo' m' bc' he hne a ha => ?_⟩⟩
  rcases List.mem_append.1 hu with hu | hu
  · exact h.loc u hu bo' m' bc' he hne a ha
  · simp only [List.mem_singleton] at hu
    rw [hu] at he
    cases he
    exact hz (fun e => hne (by rw [e]; rfl)) a ha
theorem Rowz.fisz {Z : Nat → Prop} {w wr : World} {ao : Option Addr} {n c : Nat} {L : List (By × By)} {vs : List Value} (h : Rowz Z w wr (.slice ao n c) L vs) : Fisz wr (fun b => Z b ∨ (w.heap.size ≤ b ∧ b < wr.heap.size)) ao L ∧ n = L.length := by
  refine ⟨fun i hi => ?_, (h.rf.fis (Kept.refl [] wr)).2⟩
  have hv : i < vs.length := by rw [h.rf.len]; exact hi
  obtain ⟨q1, q2⟩ := fcells_get L vs i _ _ h.rf.len (List.getElem?_eq_getElem hi) (List.getElem?_eq_getElem hv)
  obtain ⟨bo, bc, e, hs⟩ := h.rf.sl i _ _ (List.getElem?_eq_getElem hi) (List.getElem?_eq_getElem hv)
  have hl := fun hne => h.loc vs[i] (List.getElem_mem hv) bo _ bc e hne
  rw [e] at q2
  rcases h.rf.row.2 with ⟨e, e2⟩ | ⟨g, cap, cur, e2, hg⟩
  · omega
  · have hgl := h.rf.row.lt g (by rw [e2]; rfl)
    injection e2 with e2 _ _
    subst e2
    refine ⟨g, rfl, .inr hgl, _, List.getElem?_eq_getElem hi, ?_, bo, bc, ?_, hs.kept h.rf.kept (by simp), fun hne a ha => .inl (hl (fun e => hne (List.eq_nil_of_length_eq_zero e)) a ha)⟩
    · have := h.rf.row.cells (g := g) rfl _ _ q1
      rwa [add0] at this
    · have := h.rf.row.cells (g := g) rfl _ _ q2
      rwa [add0] at this
theorem rest_take (q : By) (L : List (By × By)) (k : Nat) (f : By × By) (h : L[k]? = some f) : rest q (L.take (k + 1)) = rest q (L.take k) ++ (if q.isPrefixOf f.1 = true then [] else [f]) := by
  rw [List.take_add_one, h]
  unfold rest
  rw [List.filter_append]
  congr 1
  by_cases h1 : q.isPrefixOf f.1 = true
  · simp [h1]
  · have h2 : q.isPrefixOf f.1 = false := Bool.eq_false_iff.2 h1
    simp [h2]
end

end Go.Proofs.YtoiogpcmndlpcaaGreatDoor
