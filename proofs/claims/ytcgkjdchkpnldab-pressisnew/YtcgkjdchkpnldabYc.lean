/-
  Contract: freightlaw4.apart. (Written by tools/yc.py.)
-/
import Derived.Test.YtcgkjdchkpnldabYb
namespace Go.Proofs.Ytcgkjdchkpnldab
open Go.RowKit
set_option linter.unusedVariables false
set_option linter.unusedSimpArgs false

def Mk (j : Nat) (xs : List UInt8) (k : Nat) : Prop := ∀ t, t < k → xs.getD t 0 = UInt8.ofNat (j + 1)
theorem Mk.set {j : Nat} {xs : List UInt8} {k : Nat} (h : Mk j xs k) (hk : k < xs.length) : Mk j (xs.set k (UInt8.ofNat (j + 1))) (k + 1) := by
  intro t ht
  by_cases e : t = k
  · subst e; simp [List.getD_eq_getElem?_getD, hk]
  · have := h t (by omega)
    rw [List.getD_eq_getElem?_getD] at this ⊢
    rw [List.getElem?_set_ne (by omega)]
    exact this
theorem Mk.snoc {j : Nat} {xs : List UInt8} (h : Mk j xs xs.length) : Mk j (xs ++ [UInt8.ofNat (j + 1)]) (xs ++ [UInt8.ofNat (j + 1)]).length := by
  intro t ht
  simp at ht
  by_cases e : t = xs.length
  · subst e; simp [List.getD_eq_getElem?_getD]
  · have := h t (by omega)
    rw [List.getD_eq_getElem?_getD] at this ⊢
    rw [List.getElem?_append_left (by omega)]
    exact this

/-- The rows as they came, and as they stand. -/
structure Al (B : Nat) (w wr : World) (m : Nat) (f h : Nat → Rr) (ao : Option Addr) (cap : Nat) : Prop where
  fam : Fam B wr m h
  same : ∀ j, j < m → (h j).val = (f j).val
  all : wr.ownsRow B 22 1 (.slice ao m cap) m (vals m f)
  bel : Below B w wr
theorem Al.len {B : Nat} {w wr : World} {m : Nat} {f h : Nat → Rr} {ao : Option Addr} {cap : Nat} (A : Al B w wr m f h ao cap) {j : Nat} (hj : j < m) : (h j).xs.length = (f j).xs.length := by
  have := A.same j hj
  unfold Rr.val at this
  injection this
theorem Al.os {B : Nat} {w wr : World} {m : Nat} {f h : Nat → Rr} {ao : Option Addr} {cap : Nat} (A : Al B w wr m f h ao cap) {j : Nat} (hj : j < m) : (h j).o = (f j).o := by
  have := A.same j hj
  unfold Rr.val at this
  injection this
theorem Rr.At.opens {B : Nat} {w : World} {r : Rr} (h : r.At B w) (h0 : 0 < r.xs.length) : ∃ g, r.o = some ⟨g, 0, none⟩ ∧ B ≤ g := by
  rcases h.2 with ⟨e, e2⟩ | ⟨g, cap, cur, e, hb, _⟩
  · omega
  · unfold Rr.val at e
    injection e with e _ _
    exact ⟨g, e, hb⟩
theorem Rr.At.cellAt {B : Nat} {w : World} {r : Rr} (h : r.At B w) {g k : Nat} (ho : r.o = some ⟨g, 0, none⟩) (hk : k < r.xs.length) : w.cell? ⟨g, k, none⟩ = some (.int .u8 (r.xs.getD k 0).toNat) := by
  unfold Rr.At Rr.val at h
  rw [ho] at h
  rw [World.ownsRow.cellAt h k (by omega), bys_at hk]
theorem Rr.At.frozenAt {B : Nat} {w : World} {r : Rr} (h : r.At B w) {g : Nat} (ho : r.o = some ⟨g, 0, none⟩) (k : Nat) : w.frozen? ⟨g, k, none⟩ = false := by
  unfold Rr.At Rr.val at h
  rw [ho] at h
  exact World.ownsRow.frozenAt h k
theorem Al.put {B : Nat} {w wr : World} {m : Nat} {f h : Nat → Rr} {ao : Option Addr} {cap : Nat} (A : Al B w wr m f h ao cap) {i g k : Nat} (hi : i < m) (ho : (f i).o = some ⟨g, 0, none⟩) (hBg : B ≤ g) (hB : B ≤ wr.heap.size) (x : UInt8) :
    Al B w (wr.setCell ⟨g, k, none⟩ (.int .u8 x.toNat)) m f (upr h i ⟨(h i).o, (h i).c, (h i).xs.set k x⟩) ao cap := by
  have ho' : (h i).o = some ⟨g, 0, none⟩ := (A.os hi).trans ho
  obtain ⟨F, hg⟩ := A.fam.set (k := k) hi ho' x
  have hbi : (h i).blk = some g := by unfold Rr.blk Rr.val; rw [ho']; rfl
  exact ⟨F, fun j hj => (upr_val h i _ (by unfold Rr.val; simp) j).trans (A.same j hj), own_keep A.all hg (by rw [← hbi]; exact own_types A.all (A.fam.own i hi) (by decide)), A.bel.grown hg hB (fun q hq => by cases hq; exact hBg)⟩
theorem own_some {w : World} {B : Nat} {e : TypeId} {ao : Option Addr} {m cap : Nat} {xs : List Value} (h : w.ownsRow B e 1 (.slice ao m cap) m xs) (h0 : 0 < m) : ∃ g, ao = some ⟨g, 0, none⟩ ∧ B ≤ g := by
  rcases h.2 with ⟨e, e2⟩ | ⟨g, cap, cur, e, hb, _⟩
  · omega
  · injection e with e _ _
    exact ⟨g, e, hb⟩
theorem mark_num (i : Nat) (hi : i < 72) : IntKind.u8.wrap ((i : Int) + 1) = ((UInt8.ofNat (i + 1)).toNat : Int) := by
  rw [UInt8.toNat_ofNat', Nat.mod_eq_of_lt (by omega)]
  simp [IntKind.wrap, IntKind.bits, IntKind.signed]
  omega

theorem wpList_appR {ops : Array Oper} {rest : List Oper} {o : Oper} {a : Act} {Q : Exit → Act → World → Prop} (w : World) (B : Nat) (hgd : o.guard = none) (s x : Operand)
    (ho : o.op = .call { callee := .builtin .append, args := #[s, x], argTypes := #[22, 22] }) (hty : o.type = 22) (q : Option Addr) (qc : Nat) (xs : List UInt8) (y : UInt8) (N : Nat) (hN : xs.length = N)
    (hs : a.eval s = .slice q N qc) (hx : a.eval x = .slice (some ⟨w.heap.size, 0, none⟩) 1 1) (hO : (Rr.mk q qc xs).At B w) (hl : N + 1 ≤ 140737488355328) (hb : B ≤ w.heap.size)
    (hK : ∀ g c w', (Rr.mk (some ⟨g, 0, none⟩) c (xs ++ [y])).At B w' → (Rr.mk q qc xs).At B w' → (w.alloc (.cells #[.int .u8 y.toNat] 5)).grownBy w' (Rr.mk q qc xs).blk → (some g = (Rr.mk q qc xs).blk ∨ g = (w.alloc (.cells #[.int .u8 y.toNat] 5)).heap.size) → wpList Try.prog ops Q rest (a.put o.dst (.slice (some ⟨g, 0, none⟩) (N + 1) c)) w') :
    wpList Try.prog ops Q (o :: rest) a (w.alloc (.cells #[.int .u8 y.toNat] 5)) := by
  subst hN
  refine wpList_plain hgd fun K' hK' => ?_
  obtain ⟨g, c, w3, hrun, h1, h2, h3, h4⟩ := run_append_both _ B ⟨q, qc, xs⟩ y w.heap.size (hO.keep (World.grownBy_alloc w _ none) (Off.none _)) (sl_new1 w y) hl (by simp; omega)
  exact wp_append_run s x 22 ho _ _ hs hx _ _ (by rw [hty]; exact hrun) (hK' _ _ (hK g c w3 h1 h2 h3 h4))

theorem wpList_appT {ops : Array Oper} {rest : List Oper} {o : Oper} {a : Act} {Q : Exit → Act → World → Prop} (w : World) (B : Nat) (hgd : o.guard = none) (s x : Operand)
    (ho : o.op = .call { callee := .builtin .append, args := #[s, x], argTypes := #[31, 31] }) (hty : o.type = 31) (lo : Option Addr) (lc n m : Nat) (xs ys : List Value)
    (hs : a.eval s = .slice lo n lc) (hx : a.eval x = .slice (some ⟨w.heap.size, 0, none⟩) m m) (hO : w.ownsRow B 22 1 (.slice lo n lc) n xs) (hm : ys.length = m) (hm0 : 0 < m) (h1 : ∀ u ∈ ys, u.oneCell' = true) (hl : n + m ≤ 1000000) (hb : B ≤ w.heap.size) (A : Array Value) (hA : A = ys.toArray)
    (hK : ∀ g c w', w'.ownsRow B 22 1 (.slice (some ⟨g, 0, none⟩) (n + m) c) (n + m) (xs ++ ys) → (w.alloc (.cells A 22)).grownBy w' (Value.slice lo n lc).ownBlock → (some g = (Value.slice lo n lc).ownBlock ∨ g = (w.alloc (.cells A 22)).heap.size) → wpList Try.prog ops Q rest (a.put o.dst (.slice (some ⟨g, 0, none⟩) (n + m) c)) w') :
    wpList Try.prog ops Q (o :: rest) a (w.alloc (.cells A 22)) := by
  subst hA
  refine wpList_plain hgd fun K' hK' => ?_
  obtain ⟨g, c, w3, hrun, h2, h3, h4⟩ := run_append_rows _ B lo n lc xs ys w.heap.size m (hO.alloc (.cells ys.toArray 22)) (fun j u hj => by rw [World.cell?_alloc_new]; simpa using hj) hm hm0 h1 hl (by simp; omega)
  exact wp_append_run s x 31 ho _ _ hs hx _ _ (by rw [hty]; exact hrun) (hK' _ _ (hK g c w3 h2 h3 h4))

structure Lgr (B : Nat) (w wr : World) (m : Nat) (f h : Nat → Rr) (ao : Option Addr) (cap i : Nat) (lf : Nat → Rr) (lo : Option Addr) (lc : Nat) : Prop where
  lx : Lx B wr m h i lf
  all : wr.ownsRow B 22 1 (.slice ao m cap) m (vals m f)
  longer : wr.ownsRow B 22 1 (.slice lo i lc) i (vals i lf)
  off : Off (Value.slice lo i lc).ownBlock (Value.slice ao m cap).ownBlock
  bel : Below B w wr
  mks : ∀ j, j < i → Mk j (lf j).xs (lf j).xs.length
  len : ∀ j, j < i → (lf j).xs.length = (f j).xs.length + 24
structure Lin (B : Nat) (w wr : World) (m : Nat) (f h : Nat → Rr) (ao : Option Addr) (cap i : Nat) (lf : Nat → Rr) (lo : Option Addr) (lc : Nat) (q : Option Addr) (qc : Nat) (xs : List UInt8) : Prop where
  lx : Lx B wr m h (i + 1) (upr lf i ⟨q, qc, xs⟩)
  all : wr.ownsRow B 22 1 (.slice ao m cap) m (vals m f)
  longer : wr.ownsRow B 22 1 (.slice lo i lc) i (vals i lf)
  off : Off (Value.slice lo i lc).ownBlock (Value.slice ao m cap).ownBlock
  bel : Below B w wr
  mks : ∀ j, j < i → Mk j (lf j).xs (lf j).xs.length
  len : ∀ j, j < i → (lf j).xs.length = (f j).xs.length + 24
  mk' : Mk i xs xs.length
theorem Lin.at_ {B : Nat} {w wr : World} {m : Nat} {f h : Nat → Rr} {ao : Option Addr} {cap i : Nat} {lf : Nat → Rr} {lo : Option Addr} {lc : Nat} {q : Option Addr} {qc : Nat} {xs : List UInt8} (L : Lin B w wr m f h ao cap i lf lo lc q qc xs) : (Rr.mk q qc xs).At B wr := by
  have := L.lx.own i (by omega)
  rwa [upr_same] at this
theorem Lin.app {B : Nat} {w wr w' : World} {m : Nat} {f h : Nat → Rr} {ao : Option Addr} {cap i : Nat} {lf : Nat → Rr} {lo : Option Addr} {lc : Nat} {q : Option Addr} {qc : Nat} {xs : List UInt8} {o : Obj} {g c : Nat} (L : Lin B w wr m f h ao cap i lf lo lc q qc xs) (hi : i < m) (hB : B ≤ wr.heap.size)
    (h1 : (Rr.mk (some ⟨g, 0, none⟩) c (xs ++ [UInt8.ofNat (i + 1)])).At B w') (h2 : (Rr.mk q qc xs).At B w') (h3 : (wr.alloc o).grownBy w' (Rr.mk q qc xs).blk) (h4 : some g = (Rr.mk q qc xs).blk ∨ g = (wr.alloc o).heap.size) :
    Lin B w w' m f h ao cap i lf lo lc (some ⟨g, 0, none⟩) c (xs ++ [UInt8.ofNat (i + 1)]) := by
  have hg0 := World.grownBy_alloc wr o none
  have hat := L.at_
  have lx1 : Lx B (wr.alloc o) m h (i + 1) (upr lf i ⟨q, qc, xs⟩) := L.lx.grow hg0 (fun _ _ => Off.none _) (fun _ _ => Off.none _)
  have hup : ∀ r, upr (upr lf i ⟨q, qc, xs⟩) i r = upr lf i r := fun r => by
    funext j
    by_cases e : j = i
    · subst e; rw [upr_same, upr_same]
    · rw [upr_other _ _ _ _ e, upr_other _ _ _ _ e, upr_other _ _ _ _ e]
  have lx2 := lx1.app (r := ⟨some ⟨g, 0, none⟩, c, xs ++ [UInt8.ofNat (i + 1)]⟩) hi h1 (by rw [upr_same]; exact h2) (by rw [upr_same]; exact h3) (by rw [upr_same]; rcases h4 with h4 | h4; exact .inl h4; exact .inr (by unfold Rr.blk Rr.val; simp [Value.ownBlock, h4])) (by rw [upr_same]; simp)
  rw [hup] at lx2
  exact ⟨lx2, own_keep (L.all.alloc o) h3 (own_types (L.all) hat (by decide)), own_keep (L.longer.alloc o) h3 (own_types (L.longer) hat (by decide)), L.off, (L.bel.grown (hg0) hB (by simp)).grown h3 (by simp; omega) (fun k hk => (World.ownsRow.lt hat k hk).1), L.mks, L.len, L.mk'.snoc⟩
theorem Lin.next {B : Nat} {w wr w' : World} {m : Nat} {f h : Nat → Rr} {ao : Option Addr} {cap i : Nat} {lf : Nat → Rr} {lo : Option Addr} {lc : Nat} {q : Option Addr} {qc : Nat} {xs : List UInt8} {o : Obj} {g c : Nat} (L : Lin B w wr m f h ao cap i lf lo lc q qc xs) (hi : i < m) (hB : B ≤ wr.heap.size) (hl : xs.length = (f i).xs.length + 24)
    (h1 : w'.ownsRow B 22 1 (.slice (some ⟨g, 0, none⟩) (i + 1) c) (i + 1) (vals i lf ++ [(Rr.mk q qc xs).val])) (h3 : (wr.alloc o).grownBy w' (Value.slice lo i lc).ownBlock) (h4 : some g = (Value.slice lo i lc).ownBlock ∨ g = (wr.alloc o).heap.size) :
    Lgr B w w' m f h ao cap (i + 1) (upr lf i ⟨q, qc, xs⟩) (some ⟨g, 0, none⟩) c := by
  have hg0 := World.grownBy_alloc wr o none
  have hU : ∀ j, j < i → upr lf i ⟨q, qc, xs⟩ j = lf j := fun j hj => upr_other _ _ _ _ (by omega)
  have lx1 : Lx B (wr.alloc o) m h (i + 1) (upr lf i ⟨q, qc, xs⟩) := L.lx.grow hg0 (fun _ _ => Off.none _) (fun _ _ => Off.none _)
  refine ⟨lx1.grow h3 (fun j hj => own_types (L.lx.fam.own j hj) L.longer (by decide)) (fun j hj => own_types (L.lx.own j hj) L.longer (by decide)), own_keep (L.all.alloc o) h3 L.off.symm, ?_, ?_, (L.bel.grown hg0 hB (by simp)).grown h3 (by simp; omega) (fun k hk => (World.ownsRow.lt L.longer k hk).1), fun j hj => ?_, fun j hj => ?_⟩
  · rw [vals_succ, upr_same, vals_congr (f := upr lf i ⟨q, qc, xs⟩) (g := lf) (fun j hj => by rw [hU j hj])]
    exact h1
  · intro k hk hk2
    rcases h4 with h4 | h4
    · exact L.off k (by rw [← h4]; exact hk) hk2
    · simp only [Value.ownBlock, Option.some.injEq] at hk
      have := (World.ownsRow.lt (L.all.alloc o) k hk2).2
      omega
  · by_cases e : j = i
    · subst e; rw [upr_same]; exact L.mk'
    · rw [hU j (by omega)]; exact L.mks j (by omega)
  · by_cases e : j = i
    · subst e; rw [upr_same]; exact hl
    · rw [hU j (by omega)]; exact L.len j (by omega)
theorem Lgr.start {B : Nat} {w wr : World} {m : Nat} {f h : Nat → Rr} {ao : Option Addr} {cap i : Nat} {lf : Nat → Rr} {lo : Option Addr} {lc : Nat} {q : Option Addr} {qc n : Nat} (L : Lgr B w wr m f h ao cap i lf lo lc) (hi : i < m) (hv : (h i).val = .slice q n qc) (hm : Mk i (h i).xs (h i).xs.length) :
    Lin B w wr m f h ao cap i lf lo lc q qc (h i).xs ∧ (h i).xs.length = n := by
  have e : h i = ⟨q, qc, (h i).xs⟩ := by
    unfold Rr.val at hv
    injection hv with h1 h2 h3
    rw [← h1, ← h3]
  refine ⟨⟨?_, L.all, L.longer, L.off, L.bel, L.mks, L.len, hm⟩, ?_⟩
  · rw [← e]; exact L.lx.start hi
  · unfold Rr.val at hv; injection hv

set_option maxHeartbeats 4000000 in
set_option maxRecDepth 100000 in
theorem apart_ok (B : Nat) (ao : Option Addr) (m cap : Nat) (f : Nat → Rr) (w : World) (hm : m ≤ 72) (hl : ∀ i, i < m → (f i).xs.length ≤ 100000) (hF : Fam B w m f) (hA : w.ownsRow B 22 1 (.slice ao m cap) m (vals m f)) (hB : B ≤ w.heap.size) :
    Calls Try.prog 10 #[.slice ao m cap] w fun e w' => e = .returned (.bool true) ∧ Below B w w' := by
  have HL := hide hl
  have H0 : Hid (Al B w w m f f ao cap) := ⟨hF, fun _ _ => rfl, hA, Below.refl _ _⟩
  have HB := hide hB
  clear hl hF hA hB
  go_enter Try.func10, Try.ntmps10
  go_wp2
  go_loopw [4] (fun v wr => ∃ (i : Nat) (h : Nat → Rr), i ≤ m ∧ v = .int .i64 i ∧ Hid (Al B w wr m f h ao cap ∧ ∀ j, j < i → Mk j (h j).xs (h j).xs.length)) (fun v _ => m - (intOf v).toNat)
  case atStart => exact ⟨0, f, Nat.zero_le _, rfl, H0.out, fun j hj => by omega⟩
  case round =>
    clear H0
    obtain ⟨i, h, him, rfl, HI⟩ := hrel
    by_cases hi : i < m
    · have hq1 : (i : Int) < (m : Int) := by omega
      obtain ⟨ab, hab, hBab⟩ := own_some HI.out.1.all (by omega)
      subst hab
      obtain ⟨o, ho⟩ : ∃ o, (f i).o = o := ⟨_, rfl⟩
      obtain ⟨n, hn⟩ : ∃ n, (f i).xs.length = n := ⟨_, rfl⟩
      obtain ⟨c, hc⟩ : ∃ c, (f i).c = c := ⟨_, rfl⟩
      have HV : Hid ((f i).val = .slice o n c ∧ (f i).xs.length = n ∧ (f i).o = o) := ⟨by unfold Rr.val; rw [ho, hn, hc], hn, ho⟩
      have hn9 : n ≤ 100000 := by rw [← hn]; exact HL.out i hi
      clear ho hn hc
      go_wp2
      go_loopw [5] (fun v wr => ∃ (k : Nat) (h : Nat → Rr), k ≤ n ∧ v = .int .i64 k ∧ Hid (Al B w wr m f h (some ⟨ab, 0, none⟩) cap ∧ (∀ j, j < i → Mk j (h j).xs (h j).xs.length) ∧ Mk i (h i).xs k)) (fun v _ => n - (intOf v).toNat)
      case atStart => exact ⟨0, h, Nat.zero_le _, rfl, HI.out.1, HI.out.2, fun t ht => by omega⟩
      case round =>
        clear HI
        obtain ⟨k, h, hkn, rfl, HK⟩ := hrel
        have ca : wr.cell? ⟨ab, i, none⟩ = some (.slice o n c) := by rw [HK.out.1.all.cellAt i (by omega), vals_at m f i hi, HV.out.1]
        by_cases hk : k < n
        · have hq2 : (k : Int) < (n : Int) := by omega
          obtain ⟨g, hg, hBg⟩ := (HK.out.1.fam.own i hi).opens (by rw [HK.out.1.len hi, HV.out.2.1]; omega)
          have hgo : o = some ⟨g, 0, none⟩ := by rw [← HV.out.2.2, ← HK.out.1.os hi, hg]
          subst hgo
          have gc := (HK.out.1.fam.own i hi).cellAt (k := k) hg (by rw [HK.out.1.len hi, HV.out.2.1]; exact hk)
          have gf := (HK.out.1.fam.own i hi).frozenAt hg k
          generalize ((h i).xs.getD k 0).toNat = old at gc
          obtain ⟨x, hx⟩ : ∃ x, UInt8.ofNat (i + 1) = x := ⟨_, rfl⟩
          have hw8 := mark_num i (by omega)
          rw [hx] at hw8
          have HN : Hid (Al B w (wr.setCell ⟨g, k, none⟩ (.int .u8 x.toNat)) m f (upr h i ⟨(h i).o, (h i).c, (h i).xs.set k x⟩) (some ⟨ab, 0, none⟩) cap ∧ (∀ j, j < i → Mk j (upr h i ⟨(h i).o, (h i).c, (h i).xs.set k x⟩ j).xs (upr h i ⟨(h i).o, (h i).c, (h i).xs.set k x⟩ j).xs.length) ∧ Mk i (upr h i ⟨(h i).o, (h i).c, (h i).xs.set k x⟩ i).xs (k + 1)) := by
            refine ⟨HK.out.1.put hi HV.out.2.2 hBg (Nat.le_trans HB.out HK.out.1.bel.size) x, fun j hj => ?_, ?_⟩
            · rw [upr_other _ _ _ _ (by omega)]; exact HK.out.2.1 j hj
            · rw [upr_same, ← hx]; exact HK.out.2.2.set (by rw [HK.out.1.len hi, HV.out.2.1]; exact hk)
          clear hg hx
          go_wp2
          go_roundw
          case rel => exact ⟨k + 1, _, by omega, by go_num, HN.out⟩
          case measure => simp [intOf]; omega
        · have hkn2 : k = n := by omega
          subst hkn2
          have hq2 : ¬ ((k : Int) < (k : Int)) := by omega
          have HN : Hid (Al B w wr m f h (some ⟨ab, 0, none⟩) cap ∧ ∀ j, j < i + 1 → Mk j (h j).xs (h j).xs.length) := ⟨HK.out.1, fun j hj => by
            by_cases e : j = i
            · subst e; rw [HK.out.1.len hi, HV.out.2.1]; exact HK.out.2.2
            · exact HK.out.2.1 j (by omega)⟩
          go_wp2
          go_roundw
          case rel => exact ⟨i + 1, h, by omega, by go_num, HN.out⟩
          case measure => simp [intOf]; omega
    · have him2 : m = i := by omega
      subst him2
      have hq1 : ¬ ((m : Int) < (m : Int)) := by omega
      have HM : Hid ((∀ j, j < m → (h j).val = (f j).val) ∧ ∀ j, j < m → Mk j (h j).xs (h j).xs.length) := ⟨HI.out.1.same, HI.out.2⟩
      have H3 : Hid (Lgr B w wr m f h ao cap 0 f none 0) := ⟨⟨HI.out.1.fam, fun j hj => by omega, fun j _ hj => by omega, fun j _ hj => by omega, fun j hj => by omega⟩, HI.out.1.all, World.ownsRow_nil _ _ _ _, fun k hk => by simp [Value.ownBlock] at hk, HI.out.1.bel, fun j hj => by omega, fun j hj => by omega⟩
      clear HI hi
      go_wp2
      go_loopw [3, 6] (fun v3 v6 wr => ∃ (i : Nat) (lf : Nat → Rr) (lo : Option Addr) (lc : Nat), i ≤ m ∧ v3 = .slice lo i lc ∧ v6 = .int .i64 i ∧ Hid (Lgr B w wr m f h ao cap i lf lo lc)) (fun _ v6 _ => m - (intOf v6).toNat)
      case atStart => exact ⟨0, f, none, 0, Nat.zero_le _, rfl, rfl, H3.out⟩
      case round =>
        clear H3
        obtain ⟨i, lf, lo, lc, him, rfl, rfl, HG⟩ := hrel
        by_cases hi : i < m
        · have hq3 : (i : Int) < (m : Int) := by omega
          obtain ⟨ab, hab, hBab⟩ := own_some HG.out.all (by omega)
          subst hab
          obtain ⟨o, ho⟩ : ∃ o, (f i).o = o := ⟨_, rfl⟩
          obtain ⟨n, hn⟩ : ∃ n, (f i).xs.length = n := ⟨_, rfl⟩
          obtain ⟨c, hc⟩ : ∃ c, (f i).c = c := ⟨_, rfl⟩
          have HV : Hid ((f i).val = .slice o n c ∧ (f i).xs.length = n) := ⟨by unfold Rr.val; rw [ho, hn, hc], hn⟩
          have hn9 : n ≤ 100000 := by rw [← hn]; exact HL.out i hi
          clear ho hn hc
          have ca : wr.cell? ⟨ab, i, none⟩ = some (.slice o n c) := by rw [HG.out.all.cellAt i (by omega), vals_at m f i hi, HV.out.1]
          have HS : Hid (Lin B w wr m f h (some ⟨ab, 0, none⟩) cap i lf lo lc o c (h i).xs ∧ (h i).xs.length = n) := HG.out.start hi ((HM.out.1 i hi).trans HV.out.1) (HM.out.2 i hi)
          clear HG
          go_wp2
          go_loopw [7, 8] (fun v7 v8 wr => ∃ (k : Nat) (q : Option Addr) (qc : Nat) (xs : List UInt8), k ≤ 24 ∧ v7 = .slice q (n + k) qc ∧ v8 = .int .i64 k ∧ Hid (Lin B w wr m f h (some ⟨ab, 0, none⟩) cap i lf lo lc q qc xs ∧ xs.length = n + k)) (fun _ v8 _ => 24 - (intOf v8).toNat)
          case atStart => exact ⟨0, o, c, (h i).xs, by omega, rfl, rfl, HS.out.1, HS.out.2⟩
          case round =>
            clear HS ca
            obtain ⟨k, q, qc, xs, hk24, rfl, rfl, HK⟩ := hrel
            by_cases hk : k < 24
            · have hq4 : (k : Int) < 24 := by omega
              obtain ⟨x, hx⟩ : ∃ x, UInt8.ofNat (i + 1) = x := ⟨_, rfl⟩
              have hw8 := mark_num i (by omega)
              rw [hx] at hw8
              have HX := hide hx
              clear hx
              go_wp2_with (first
                | (at_builtin; refine wpList_appR wr B rfl _ _ rfl rfl q qc xs x (n + k) HK.out.2 rfl rfl HK.out.1.at_ (by omega) (Nat.le_trans HB.out HK.out.1.bel.size) ?_; intro g c2 w2 h1 h2 h3 h4; have HN : Hid (Lin B w w2 m f h (some ⟨ab, 0, none⟩) cap i lf lo lc (some ⟨g, 0, none⟩) c2 (xs ++ [x]) ∧ (xs ++ [x]).length = n + (k + 1)) := ⟨by rw [← HX.out] at h1 h3 h4 ⊢; exact HK.out.1.app hi (Nat.le_trans HB.out HK.out.1.bel.size) h1 h2 h3 h4, by rw [List.length_append, HK.out.2]; rfl⟩; clear h1 h2 h3 h4)
                | go_in)
              go_roundw
              case rel => exact ⟨k + 1, some ⟨g, 0, none⟩, c2, xs ++ [x], by omega, rfl, by go_num, HN.out⟩
              case measure => simp [intOf]; omega
            · have hk2 : k = 24 := by omega
              subst hk2
              go_wp2_with (first
                | (at_builtin; refine wpList_appT wr B rfl _ _ rfl rfl lo lc i 1 (vals i lf) [.slice q (n + 24) qc] rfl rfl HK.out.1.longer rfl (by decide) (by simp [Value.oneCell']) (by omega) (Nat.le_trans HB.out HK.out.1.bel.size) _ rfl ?_; intro g c2 w2 h1 h3 h4; have HN : Hid (Lgr B w w2 m f h (some ⟨ab, 0, none⟩) cap (i + 1) (upr lf i ⟨q, qc, xs⟩) (some ⟨g, 0, none⟩) c2) := HK.out.1.next hi (Nat.le_trans HB.out HK.out.1.bel.size) (by rw [HK.out.2, HV.out.2]) (by rw [show (Rr.mk q qc xs).val = .slice q (n + 24) qc by unfold Rr.val; rw [HK.out.2]]; exact h1) h3 h4; clear h1 h3 h4)
                | go_in)
              go_roundw
              case rel => exact ⟨i + 1, _, some ⟨g, 0, none⟩, c2, by omega, rfl, by go_num, HN.out⟩
              case measure => simp [intOf]; omega
        · have him3 : m = i := by omega
          subst him3
          go_wp2
          go_loopw [9] (fun v wr => ∃ (i : Nat), i ≤ m ∧ v = .int .i64 i ∧ Hid (Lgr B w wr m f h ao cap m lf lo lc)) (fun v _ => m - (intOf v).toNat)
          case atStart => exact ⟨0, Nat.zero_le _, rfl, HG.out⟩
          case round =>
            clear HG
            obtain ⟨i, him4, rfl, HG⟩ := hrel
            by_cases hi2 : i < m
            · have hq3 : (i : Int) < (m : Int) := by omega
              obtain ⟨ab, hab, hBab⟩ := own_some HG.out.all (by omega)
              subst hab
              obtain ⟨lb, hlb, hBlb⟩ := own_some HG.out.longer (by omega)
              subst hlb
              obtain ⟨o, ho⟩ : ∃ o, (f i).o = o := ⟨_, rfl⟩
              obtain ⟨n, hn⟩ : ∃ n, (f i).xs.length = n := ⟨_, rfl⟩
              obtain ⟨c, hc⟩ : ∃ c, (f i).c = c := ⟨_, rfl⟩
              have HV : Hid ((f i).val = .slice o n c ∧ (f i).xs.length = n ∧ (f i).o = o) := ⟨by unfold Rr.val; rw [ho, hn, hc], hn, ho⟩
              have hn9 : n ≤ 100000 := by rw [← hn]; exact HL.out i hi2
              clear ho hn hc
              have hll := HG.out.len i hi2
              rw [HV.out.2.1] at hll
              obtain ⟨lg, hlg, hBlg⟩ := (HG.out.lx.own i hi2).opens (by omega)
              obtain ⟨N, hN⟩ : ∃ N, n + 24 = N := ⟨_, rfl⟩
              obtain ⟨qc, hqc⟩ : ∃ qc, (lf i).c = qc := ⟨_, rfl⟩
              have HW : Hid ((lf i).val = .slice (some ⟨lg, 0, none⟩) N qc ∧ (lf i).xs.length = N ∧ (lf i).o = some ⟨lg, 0, none⟩) := ⟨by unfold Rr.val; rw [hlg, hll, hN, hqc], hll.trans hN, hlg⟩
              have hN9 : N ≤ 100024 := by omega
              clear hll hlg hqc hN
              go_wp2
              go_loopw [10] (fun v wr => ∃ (k : Nat), k ≤ N ∧ v = .int .i64 k ∧ Hid (Lgr B w wr m f h (some ⟨ab, 0, none⟩) cap m lf (some ⟨lb, 0, none⟩) lc)) (fun v _ => N - (intOf v).toNat)
              case atStart => exact ⟨0, Nat.zero_le _, rfl, HG.out⟩
              case round =>
                clear HG
                obtain ⟨k, hkN, rfl, HG⟩ := hrel
                have cl : wr.cell? ⟨lb, i, none⟩ = some (.slice (some ⟨lg, 0, none⟩) N qc) := by rw [HG.out.longer.cellAt i (by omega), vals_at m lf i hi2, HW.out.1]
                have ca : wr.cell? ⟨ab, i, none⟩ = some (.slice o n c) := by rw [HG.out.all.cellAt i (by omega), vals_at m f i hi2, HV.out.1]
                by_cases hk : k < N
                · have hq4 : (k : Int) < (N : Int) := by omega
                  obtain ⟨x, hx⟩ : ∃ x, UInt8.ofNat (i + 1) = x := ⟨_, rfl⟩
                  have hw8 := mark_num i (by omega)
                  rw [hx] at hw8
                  have cx : wr.cell? ⟨lg, k, none⟩ = some (.int .u8 x.toNat) := by rw [(HG.out.lx.own i hi2).cellAt HW.out.2.2 (by rw [HW.out.2.1]; exact hk), HG.out.mks i hi2 k (by rw [HW.out.2.1]; exact hk), hx]
                  have HX := hide hx
                  clear hx
                  by_cases hkn : k < n
                  · have hq5 : (k : Int) < (n : Int) := by omega
                    have hhl : (h i).xs.length = n := by have := HM.out.1 i hi2; rw [HV.out.1] at this; unfold Rr.val at this; injection this
                    have hho : (h i).o = o := by have := HM.out.1 i hi2; rw [HV.out.1] at this; unfold Rr.val at this; injection this
                    obtain ⟨g, hg, hBg⟩ := (HG.out.lx.fam.own i hi2).opens (by omega)
                    have hgo : o = some ⟨g, 0, none⟩ := by rw [← hho, hg]
                    have cy : wr.cell? ⟨g, k, none⟩ = some (.int .u8 x.toNat) := by rw [(HG.out.lx.fam.own i hi2).cellAt hg (by omega), HM.out.2 i hi2 k (by omega), HX.out]
                    subst hgo
                    clear hhl hho hg
                    go_wp2
                    go_roundw
                    case rel => exact ⟨k + 1, by omega, by go_num, HG.out⟩
                    case measure => simp [intOf]; omega
                  · have hq5 : ¬ ((k : Int) < (n : Int)) := by omega
                    go_wp2
                    go_roundw
                    case rel => exact ⟨k + 1, by omega, by go_num, HG.out⟩
                    case measure => simp [intOf]; omega
                · have hkN2 : k = N := by omega
                  subst hkN2
                  have hq4 : ¬ ((k : Int) < (k : Int)) := by omega
                  go_wp2
                  go_roundw
                  case rel => exact ⟨i + 1, by omega, by go_num, HG.out⟩
                  case measure => simp [intOf]; omega
            · have him5 : m = i := by omega
              subst him5
              go_wp2
              go_ret
              exact ⟨rfl, HG.out.bel⟩

end Go.Proofs.Ytcgkjdchkpnldab
