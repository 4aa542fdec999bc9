/-
  TreeKeeps: the growing of rows and lists. (Seat of TreeKeeps.)
-/
import Derived.Test.YtjogfpogdjhglaaDoorOp
import Derived.Test.YtjogfpogdjhglaaDoorOw
namespace Go.Proofs.YtjogfpogdjhglaaDoor
open Go.RowKit
set_option linter.unusedVariables false
set_option linter.unusedSimpArgs false

theorem Tryd.infoRow : (Tryd.prog.info? 23).map (fun i => (i.zero, i.size, i.bytes)) = some (some (.slice none 0 0), 1, 24) := by kernel_rfl
theorem Tryd.infoList : (Tryd.prog.info? 22).map (fun i => (i.zero, i.size, i.bytes)) = some (some (.slice none 0 0), 1, 24) := by kernel_rfl
theorem Tryd.infoByteQ : (Tryd.prog.info? 5).map (fun i => (i.zero, i.size, i.bytes)) = some (some (.int .u8 0), 1, 1) := by kernel_rfl

theorem rw_sl {B : Nat} {w : World} {r : Rw} {xs : List UInt8} (h : r.At 5 1 B w) (hn : r.n = xs.length) (hv : r.vs = bys xs) : Sl w r.o xs := by
  have h2 : OwnB w B (.slice r.o xs.length r.c) xs := by
    unfold Rw.At Rw.val at h
    rw [hn, hv] at h
    exact h
  obtain ⟨ao, cap, hv, _, hs, _⟩ := h2.shape
  cases hv
  exact hs
theorem rw_ents {B : Nat} {w : World} {r : Rw} {L : List Ent} (h : r.At 42 34 B w) (hn : r.n = L.length) (hv : r.vs = rows L) (hok : ∀ e ∈ L, EntOk e) : Ents w r.o L := by
  have h2 : OwnE w B (.slice r.o L.length r.c) L := by
    unfold Rw.At Rw.val at h
    rw [hn, hv] at h
    exact ⟨h, hok⟩
  obtain ⟨ao, cap, hv, _, hs, _⟩ := h2.ents
  cases hv
  exact hs

/-- What is put behind row i, list i. -/
def yb (i : Nat) : List Value := [.int .u8 (100 + (i : Int))]
def yl (i : Nat) : List Value := (put' i).cells
structure Tg (w wr : World) (fb fl : Nat → Rw) (rR rL : Rw) (cb : Nat) (lb : Nat → Rw) (ccb : Nat) (rG : Rw) (cl : Nat) (ll : Nat → Rw) (ccl : Nat) (rH : Rw) : Prop where
  bel : Below w.heap.size w wr
  gb : Gx 5 23 1 w.heap.size wr 12 fb rR cb lb ccb rG
  gl : Gx 42 22 34 w.heap.size wr 12 fl rL cl ll ccl rH
section
variable {w wr wr' : World} {fb fl lb ll : Nat → Rw} {rR rL rG rH : Rw} {cb cl ccb ccl i : Nat}
theorem below_grown {row : Option Nat} (h : Below w.heap.size w wr) (hg : wr.grownBy wr' row) (hr : ∀ k, row = some k → w.heap.size ≤ k) : Below w.heap.size w wr' :=
  h.trans ((grown_kept hg).below h.size (fun g hg' => hr g (by simpa using hg')))
theorem Tg.kept (T : Tg w wr fb fl rR rL cb lb ccb rG cl ll ccl rH) (hk : Kept [] wr wr') : Tg w wr' fb fl rR rL cb lb ccb rG cl ll ccl rH :=
  ⟨T.bel.trans (hk.below T.bel.size (by simp)), T.gb.kept hk, T.gl.kept hk⟩
theorem Tg.begin {gR gL cR cL : Nat} (h : Tk w wr 12 12 fb fl (.slice (some ⟨gR, 0, none⟩) 12 cR) (.slice (some ⟨gL, 0, none⟩) 12 cL)) :
    Tg w wr fb fl ⟨some ⟨gR, 0, none⟩, cR, 12, vals 12 fb⟩ ⟨some ⟨gL, 0, none⟩, cL, 12, vals 12 fl⟩ 0 fb 0 rw0 0 fl 0 rw0 :=
  ⟨h.bel, Gx.begin (by decide) h.bf h.oR rfl rfl, Gx.begin (by decide) h.lf h.oL rfl rfl⟩
theorem Tg.start (T : Tg w wr fb fl rR rL i lb i rG i ll i rH) (hi : i < 12) : Tg w wr fb fl rR rL (i + 1) (upr lb i (fb i)) i rG (i + 1) (upr ll i (fl i)) i rH :=
  ⟨T.bel, T.gb.start hi, T.gl.start hi⟩
theorem Tg.appB (T : Tg w wr fb fl rR rL (i + 1) lb i rG (i + 1) ll i rH) (hi : i < 12) (hl : (lb i).n ≤ 2000000) :
    ∃ r w', (Builtin.append_ #[23, 23] 23 #[(lb i).val, .slice (some ⟨wr.heap.size, 0, none⟩) 1 1]).run Tryd.prog (wr.alloc (.cells #[.int .u8 (100 + (i : Int))] 5)) = .ok r.val w' ∧ Tg w w' fb fl rR rL (i + 1) (upr lb i r) i rG (i + 1) ll i rH ∧ r.n = (lb i).n + 1 ∧ r.vs = (lb i).vs ++ yb i := by
  obtain ⟨r, w', hrun, G, h1, h2, h3, h4⟩ := T.gb.app 23 (.int .u8 0) 1 Tryd.underlying23 Tryd.infoByteQ rfl (by decide) hi (yb i) rfl (by simp [yb, Value.oneCell']) (by omega) (by omega) T.bel.size
  exact ⟨r, w', hrun, ⟨below_grown T.bel h4 (fun k hk => (World.ownsRow.lt h3 k hk).1), G, T.gl.other h3 (by decide) (by decide) h4⟩, h1, h2⟩
theorem Tg.appL (T : Tg w wr fb fl rR rL (i + 1) lb i rG (i + 1) ll i rH) (hi : i < 12) (hl : (ll i).n ≤ 2000000) :
    ∃ r w', (Builtin.append_ #[22, 22] 22 #[(ll i).val, .slice (some ⟨wr.heap.size, 0, none⟩) 1 1]).run Tryd.prog (wr.alloc (.cells (put' i).cells.toArray 42)) = .ok r.val w' ∧ Tg w w' fb fl rR rL (i + 1) lb i rG (i + 1) (upr ll i r) i rH ∧ r.n = (ll i).n + 1 ∧ r.vs = (ll i).vs ++ yl i := by
  have hok : EntOk (put' i) := put_ok (by omega)
  obtain ⟨r, w', hrun, G, h1, h2, h3, h4⟩ := T.gl.app 22 (.agg zeroE) 56 Tryd.underlying22 Tryd.infoEnt3 rfl (by decide) hi (yl i) hok.len (ent_one _) (by omega) (by omega) T.bel.size
  exact ⟨r, w', hrun, ⟨below_grown T.bel h4 (fun k hk => (World.ownsRow.lt h3 k hk).1), T.gb.other h3 (by decide) (by decide) h4, G⟩, h1, h2⟩
theorem Tg.pushB (T : Tg w wr fb fl rR rL (i + 1) lb i rG (i + 1) ll i rH) (hi : i < 12) :
    ∃ r w', (Builtin.append_ #[25, 25] 25 #[rG.val, .slice (some ⟨wr.heap.size, 0, none⟩) 1 1]).run Tryd.prog (wr.alloc (.cells #[(lb i).val] 23)) = .ok r.val w' ∧ Tg w w' fb fl rR rL (i + 1) lb (i + 1) r (i + 1) ll i rH := by
  obtain ⟨r, w', hrun, G, h3, h4⟩ := T.gb.push 25 Tryd.underlying25 Tryd.infoRow (by omega) T.bel.size
  exact ⟨r, w', hrun, ⟨below_grown T.bel h4 (fun k hk => (World.ownsRow.lt h3 k hk).1), G, T.gl.other h3 (by decide) (by decide) h4⟩⟩
theorem Tg.pushL (T : Tg w wr fb fl rR rL cb lb ccb rG (i + 1) ll i rH) (hi : i < 12) :
    ∃ r w', (Builtin.append_ #[26, 26] 26 #[rH.val, .slice (some ⟨wr.heap.size, 0, none⟩) 1 1]).run Tryd.prog (wr.alloc (.cells #[(ll i).val] 22)) = .ok r.val w' ∧ Tg w w' fb fl rR rL cb lb ccb rG (i + 1) ll (i + 1) r := by
  obtain ⟨r, w', hrun, G, h3, h4⟩ := T.gl.push 26 Tryd.underlying26 Tryd.infoList (by omega) T.bel.size
  exact ⟨r, w', hrun, ⟨below_grown T.bel h4 (fun k hk => (World.ownsRow.lt h3 k hk).1), T.gb.other h3 (by decide) (by decide) h4, G⟩⟩
theorem bys_ext (xs : List UInt8) (x : UInt8) (N : Nat) : ext (bys xs) N [.int .u8 x.toNat] = bys (xs ++ List.replicate N x) := by
  have h : bys (List.replicate N x) = (List.replicate N [Value.int .u8 x.toNat]).flatten := by
    induction N with
    | zero => rfl
    | succ n ih => rw [List.replicate_succ, List.replicate_succ, List.flatten_cons, ← ih]; simp [bys]
  unfold ext
  rw [← h]
  simp [bys]
theorem rows_ext (L : List Ent) (e : Ent) (N : Nat) : ext (rows L) N e.cells = rows (L ++ List.replicate N e) := by
  have h : rows (List.replicate N e) = (List.replicate N e.cells).flatten := by
    induction N with
    | zero => rfl
    | succ n ih => rw [List.replicate_succ, List.replicate_succ, List.flatten_cons, ← ih]; simp [rows]
  unfold ext
  rw [← h, rows_append]
/-- What the last loop reads of row j. -/
theorem Tg.seeB (T : Tg w wr fb fl rR rL cb lb 12 rG cl ll ccl rH) (hcb : 12 ≤ cb) (hD : Cd fb lb 70 yb 12) {j : Nat} (hj : j < 12) (hb : ∃ xs : List UInt8, (fb j).n = xs.length ∧ (fb j).vs = bys xs ∧ xs.length ≤ 1000000 ∧ ∀ k, k < xs.length → (xs.getD k 0).toNat = j) :
    ∃ xs ys : List UInt8, xs.length = (fb j).n ∧ ys.length = (lb j).n ∧ (lb j).n = (fb j).n + 70 ∧ (fb j).n ≤ 1000000 ∧ Sl wr (fb j).o xs ∧ Sl wr (lb j).o ys ∧ (∀ k, k < (fb j).n → (xs.getD k 0).toNat = j) ∧ (∀ k, k < (fb j).n → (ys.getD k 0).toNat = j) ∧ (∀ k, (fb j).n ≤ k → k < (lb j).n → (ys.getD k 0).toNat = 100 + j) := by
  obtain ⟨xs, h1, h2, h3, h4⟩ := hb
  obtain ⟨d1, d2⟩ := hD j hj
  have hx : (UInt8.ofNat (100 + j)).toNat = 100 + j := by simp [UInt8.toNat_ofNat', Nat.mod_eq_of_lt (show 100 + j < 256 by omega)]
  have e1 : yb j = [.int .u8 (UInt8.ofNat (100 + j)).toNat] := by rw [hx]; simp [yb]
  rw [h2, e1, bys_ext] at d2
  have hly : (xs ++ List.replicate 70 (UInt8.ofNat (100 + j))).length = (lb j).n := by simp [d1, h1]
  refine ⟨xs, xs ++ List.replicate 70 (UInt8.ofNat (100 + j)), h1.symm, hly, d1, by omega, rw_sl (T.gb.lx.fam.own j hj) h1 h2, rw_sl (T.gb.lx.own j (by omega)) hly.symm d2, fun k hk => h4 k (by omega), fun k hk => ?_, fun k hk hk2 => ?_⟩
  · rw [← h4 k (by omega)]
    simp [List.getD, List.getElem?_append_left (show k < xs.length by omega)]
  · simp only [List.getD]
    rw [List.getElem?_append_right (by omega), List.getElem?_replicate, if_pos (by omega)]
    exact hx
theorem Tg.seeL (T : Tg w wr fb fl rR rL cb lb ccb rG cl ll 12 rH) (hcl : 12 ≤ cl) (hD : Cd fl ll 70 yl 12) {j : Nat} (hj : j < 12) (hb : ∃ L : List Ent, (fl j).n = L.length ∧ (fl j).vs = rows L ∧ L.length ≤ 32 ∧ (∀ e ∈ L, EntOk e) ∧ ∀ k, k < L.length → L.getD k ent0 = wro j k) :
    ∃ L M : List Ent, L.length = (fl j).n ∧ M.length = (ll j).n ∧ (ll j).n = (fl j).n + 70 ∧ (fl j).n ≤ 32 ∧ Ents wr (fl j).o L ∧ Ents wr (ll j).o M ∧ (∀ k, k < (fl j).n → L.getD k ent0 = wro j k) ∧ (∀ k, k < (fl j).n → M.getD k ent0 = wro j k) ∧ (∀ k, (fl j).n ≤ k → k < (ll j).n → M.getD k ent0 = put' j) := by
  obtain ⟨L, h1, h2, h3, h5, h4⟩ := hb
  obtain ⟨d1, d2⟩ := hD j hj
  have e1 : yl j = (put' j).cells := rfl
  rw [h2, e1, rows_ext] at d2
  have hly : (L ++ List.replicate 70 (put' j)).length = (ll j).n := by simp [d1, h1]
  refine ⟨L, L ++ List.replicate 70 (put' j), h1.symm, hly, d1, by omega, rw_ents (T.gl.lx.fam.own j hj) h1 h2 h5, rw_ents (T.gl.lx.own j (by omega)) hly.symm d2 (fun e he => ?_), fun k hk => h4 k (by omega), fun k hk => ?_, fun k hk hk2 => ?_⟩
  · rcases List.mem_append.1 he with he | he
    · exact h5 e he
    · rw [List.eq_of_mem_replicate he]; exact put_ok (by omega)
  · rw [← h4 k (by omega)]
    simp [List.getD, List.getElem?_append_left (show k < L.length by omega)]
  · simp only [List.getD]
    rw [List.getElem?_append_right (by omega), List.getElem?_replicate, if_pos (by omega)]
    rfl
end
end Go.Proofs.YtjogfpogdjhglaaDoor
