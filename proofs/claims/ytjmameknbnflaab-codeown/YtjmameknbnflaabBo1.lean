/-
  Contracts: the statements' own Book: take.
-/
import Derived.Test.YtjmameknbnflaabPr
import Derived.Deep.AppendLies
import Derived.Deep.RegionLaw
namespace Go.Proofs.Ytjmameknbnflaab
open Go.RowKit
set_option linter.unusedVariables false
set_option linter.unusedSimpArgs false

/-- append onto a row of one's own: it stays where it lies, or nothing that was there is turned. -/
theorem run_append_keep {P : Program} (w : World) (base : Nat) (t ty e : TypeId) (i : TypeInfo) (z : Value) (size bytes : Nat) (ht : P.underlying t = some (.slice e)) (hi : P.info? e = some i) (hz : i.zero = some z)
    (hsize : i.size = size) (hby : i.bytes = bytes) (hzs : z.cells.size = size) (hsz : 0 < size)
    (v : Value) (n : Nat) (xs : List Value) (hown : w.ownsRow base e size v n xs)
    (a : Addr) (m c : Nat) (news : List Value) (hl : news.length = m * size) (hnews : ∀ j u, news[j]? = some u → w.cell? (a.add j) = some u) (h1 : ∀ u ∈ news, u.oneCell' = true) (hm : 0 < m)
    (h63 : n + m ≤ maxLen) (hbytes : (n + m) * bytes ≤ 140737488355328) (hbase : base ≤ w.heap.size) :
    ∃ v' w', (Builtin.append_ #[t, t] ty #[v, .slice (some a) m c]).run P w = .ok v' w' ∧ w'.ownsRow base e size v' (n + m) (xs ++ news) ∧
      ((v'.ownBlock = v.ownBlock ∧ w.grownBy w' v.ownBlock) ∨ (v'.ownBlock = some w.heap.size ∧ w.grownBy w' none)) := by
  obtain ⟨v', w', hr, ho, hg, _, hat⟩ := run_append_own_at (P := P) w base t ty e i z size bytes ht hi hz hsize hby hzs hsz v n xs hown a m c news hl hnews h1 h63 hbytes hbase
  refine ⟨v', w', hr, ho, ?_⟩
  subst hsize
  subst hby
  have hsm : n + m ≤ 9223372036854775807 := by simp only [maxLen] at h63; omega
  rcases hown.2 with ⟨rfl, rfl⟩ | ⟨g, cap, cur, rfl, hbg, hgg, hnc, hcm, hcs, htake⟩
  · have hr2 := run_append_nil (P := P) w t ty e i z ht hi hz a m c news hl hnews hm (by omega) (by simp only [Nat.zero_add] at hbytes; omega)
    rw [hr] at hr2
    injection hr2 with e1 e2
    refine .inr ⟨by rw [e1]; rfl, ?_⟩
    rw [e2]
    exact ⟨rfl, rfl, rfl, by simp, fun k hk _ => heap_alloc_old w.drew _ hk⟩
  · by_cases hroom : n + m ≤ cap
    · have hfit : n * i.size + news.length ≤ cur.size := by rw [hl, hcs, ← Nat.add_mul]; exact Nat.mul_le_mul_right _ hroom
      have hr2 := run_append_room (P := P) w t ty e i ht hi g n cap cur hgg a m c news hl hnews h1 hroom hfit
      rw [hr] at hr2
      injection hr2 with e1 e2
      exact .inl ⟨by rw [e1]; rfl, hg⟩
    · have hr2 := run_append_grow (P := P) w t ty e i z ht hi hz ⟨g, 0, none⟩ n cap xs hown.1 (hown.cells (g := g) rfl) a m c news hl hnews (by omega) (by omega) (growslice_fits (by omega) hbytes)
      rw [hr] at hr2
      injection hr2 with e1 e2
      refine .inr ⟨by rw [e1]; rfl, ?_⟩
      rw [e2]
      exact ⟨rfl, rfl, rfl, by simp, fun k hk _ => heap_alloc_old w.drew _ hk⟩

/-- The same, as a step of a region that draws its order: the new value written out. -/
theorem step_append_keep {P : Program} (w : World) {ops : Array Oper} {o : Oper} {a : Act} {K : Act → World → Prop} {Q : Exit → Act → World → Prop} {E : Prop} (hgd : o.guard = none) (s x : Operand) (t : TypeId)
    (ho : o.op = .call { callee := .builtin .append, args := #[s, x], argTypes := #[t, t] })
    (base : Nat) (e : TypeId) (i : TypeInfo) (z : Value) (size bytes : Nat) (ht : P.underlying t = some (.slice e)) (hi : P.info? e = some i) (hz : i.zero = some z)
    (hsize : i.size = size) (hby : i.bytes = bytes) (hzs : z.cells.size = size) (hsz : 0 < size)
    (v : Value) (n : Nat) (xs : List Value) (hs : a.eval s = v) (hown : w.ownsRow base e size v n xs)
    (ad : Addr) (m c : Nat) (news : List Value) (hx : a.eval x = .slice (some ad) m c) (hl : news.length = m * size) (hnews : ∀ j u, news[j]? = some u → w.cell? (ad.add j) = some u) (h1 : ∀ u ∈ news, u.oneCell' = true) (hm : 0 < m)
    (h63 : n + m ≤ maxLen) (hbytes : (n + m) * bytes ≤ 140737488355328) (hbase : base ≤ w.heap.size) (H : Nat) (hH : w.heap.size = H)
    (h : ∀ g cap w', w'.ownsRow base e size (.slice (some ⟨g, 0, none⟩) (n + m) cap) (n + m) (xs ++ news) → w.grownBy w' v.ownBlock → (v.ownBlock = some g ∨ (g = H ∧ w.grownBy w' none)) → K (a.put o.dst (.slice (some ⟨g, 0, none⟩) (n + m) cap)) w') :
    if Region.wanted o (yielded ops a.tmps) = true then Oper.wp P o a w K Q else E := by
  have hw : Region.wanted o (yielded ops a.tmps) = true := by simp [Region.wanted, hgd]
  rw [if_pos hw]
  obtain ⟨v', w', hr, h2, h3⟩ := run_append_keep (P := P) w base t o.type e i z size bytes ht hi hz hsize hby hzs hsz v n xs hown ad m c news hl hnews h1 hm h63 hbytes hbase
  obtain ⟨g, cap, rfl, _, _⟩ := h2.form (by omega)
  unfold Oper.wp execOp
  simp only [ho, resolve, invoke, builtin, Sem.run_bind, Sem.run_pure, Result.andThen_ok, List.map_toArray, List.map_cons, List.map_nil, hs, hx, hr]
  rcases h3 with ⟨h4, h5⟩ | ⟨h4, h5⟩
  · exact h g cap w' h2 h5 (.inl (by rw [← h4]; rfl))
  · refine h g cap w' h2 ⟨h5.os, h5.tape, h5.output, h5.size, fun k hk _ => h5.block k hk (by simp)⟩ (.inr ⟨?_, h5⟩)
    have : g = w.heap.size := by simpa [Value.ownBlock] using h4
    rw [this, hH]

/-- A row of the book: what was answered, what goes on from it, its mark. -/
structure En where
  lo : Option Addr
  n : Nat
  lc : Nat
  go : Option Addr
  m : Nat
  gc : Nat
  mc : UInt8

def En.row (e : En) : List UInt8 := List.replicate e.n e.mc ++ List.replicate (e.m - e.n) (e.mc + 1)
def En.cells (e : En) : List Value := [.slice e.lo e.n e.lc, .slice e.go e.m e.gc, .int .u8 e.mc.toNat]
def enRow (es : List En) : List Value := es.flatMap En.cells
theorem enRow_len (es : List En) : (enRow es).length = es.length * 3 := by
  unfold enRow
  induction es with
  | nil => rfl
  | cons e es ih => rw [List.flatMap_cons, List.length_append, ih]; simp [En.cells]; omega

/-- The book. -/
structure Bk (w : World) (base B : Nat) (rv : Value) (es : List En) : Prop where
  c0 : w.cell? ⟨B, 0, none⟩ = some rv
  f0 : w.frozen? ⟨B, 0, none⟩ = false
  own : w.ownsRow base 92 3 rv es.length (enRow es)
  ne : rv.ownBlock ≠ some B

theorem Bk.lt {w : World} {base B : Nat} {rv : Value} {es : List En} (h : Bk w base B rv es) : B < w.heap.size := World.block_lt_of_cell? _ _ h.c0
theorem Bk.kept {l : List Nat} {w w' : World} {base B : Nat} {rv : Value} {es : List En} (h : Bk w base B rv es) (hk : Kept l w w') (hB : B ∉ l) (hv : ∀ k, rv.ownBlock = some k → k ∉ l) : Bk w' base B rv es :=
  ⟨hk.cellOf h.c0 hB, (hk.frozen (p := ⟨B, 0, none⟩) h.lt hB).trans h.f0, Kept.nil_own h.own hk hv, h.ne⟩

theorem Try.infoRow : (Try.prog.info? 92).map (fun i => (i.zero, i.size, i.bytes)) = some (some (.agg #[.slice none 0 0, .slice none 0 0, .int .u8 0]), 3, 56) := by kernel_rfl
theorem Try.zeroRow (W : World) : (zeroValue 92).run Try.prog W = .ok (.agg #[.slice none 0 0, .slice none 0 0, .int .u8 0]) W := by kernel_rfl

theorem info_parts' {t : TypeId} {z : Value} {s b : Nat} (h : (Try.prog.info? t).map (fun i => (i.zero, i.size, i.bytes)) = some (some z, s, b)) : ∃ i, Try.prog.info? t = some i ∧ i.zero = some z ∧ i.size = s ∧ i.bytes = b := by
  cases hi : Try.prog.info? t with
  | none => rw [hi] at h; cases h
  | some i =>
    rw [hi] at h
    simp only [Option.map_some, Option.some.injEq, Prod.mk.injEq] at h
    exact ⟨i, rfl, h.1, h.2.1, h.2.2⟩

/-- One byte of a row of one's own is written. -/
theorem own_set {w : World} {base : Nat} {ao : Option Addr} {n cap k : Nat} {ys : List UInt8} (h : w.ownsRow base 5 1 (.slice ao n cap) n (bys ys)) (hk : k < n) (c : UInt8) :
    ∃ g, ao = some ⟨g, 0, none⟩ ∧ (∃ u, w.cell? ⟨g, k, none⟩ = some u) ∧ w.frozen? ⟨g, k, none⟩ = false ∧ (w.setCell ⟨g, k, none⟩ (.int .u8 c.toNat)).ownsRow base 5 1 (.slice ao n cap) n (bys (ys.set k c)) := by
  have hlen : ys.length = n := by have := h.1; rw [bys_length] at this; omega
  rcases h.2 with ⟨e, e0⟩ | ⟨g, cap', cur, e, hb, hg, hn, hm, hs, ht⟩
  · omega
  · cases e
    simp only [Nat.mul_one] at hs ht
    refine ⟨g, rfl, ?_, frozen_of_row _ _ _ _ _ hg, by rw [bys_length, List.length_set]; omega, .inr ⟨g, cap, cur.setIfInBounds k (.int .u8 c.toNat), rfl, hb, ?_, hn, hm, by simpa using hs, ?_⟩⟩
    · rw [cell_of_row _ _ _ _ _ _ hg]
      exact ⟨cur[k]'(by omega), by rw [Array.getElem?_eq_getElem (by omega)]⟩
    · rw [heap_setCell_same _ _ _ _ _ _ hg]
    · rw [Nat.mul_one, Array.toList_setIfInBounds, List.take_set, ht, bys_set]

theorem set_over (ys : List UInt8) (k : Nat) (c : UInt8) (h : k < ys.length) : (List.replicate k c ++ ys.drop k).set k c = List.replicate (k + 1) c ++ ys.drop (k + 1) := by
  rw [List.set_append_right _ _ (by simp), List.length_replicate, Nat.sub_self, List.drop_eq_getElem_cons h, List.set_cons_zero, List.replicate_succ', List.append_assoc]
  rfl

theorem three_cells (w : World) (c0 c1 c2 : Value) (t : TypeId) (fr : Nat × Nat) : ∀ (j : Nat) (u : Value), [c0, c1, c2][j]? = some u → (w.alloc (.cells #[c0, c1, c2] t fr)).cell? ((⟨w.heap.size, 0, none⟩ : Addr).add j) = some u := by
  intro j u hu
  match j, hu with
  | 0, hu | 1, hu | 2, hu =>
    simp at hu
    subst hu
    rw [Addr.add_mid, Nat.zero_add, World.cell?_alloc_mark]
    simp

/-- What holds at the head of take's loop. -/
structure TkRel (w wr : World) (base : Nat) (ao : Option Addr) (n cap : Nat) (mc : UInt8) (ys : List UInt8) (k : Nat) : Prop where
  own : wr.ownsRow base 5 1 (.slice ao n cap) n (bys (List.replicate k mc ++ ys.drop k))
  kept : Kept (Value.slice ao n cap).ownBlock.toList w wr

def markOf (k : Nat) : UInt8 := UInt8.ofNat (1 + 2 * (k % 100))
theorem markOf_toNat (k : Nat) : (markOf k).toNat = 1 + 2 * (k % 100) := Pure.toNat_ofNat_small (by omega)

/-- What take leaves. -/
def TakeEnd (w w' : World) (base B : Nat) (rv : Value) (es : List En) (ao : Option Addr) (n cap : Nat) : Prop :=
  ∃ rv', Bk w' base B rv' (es ++ [⟨ao, n, cap, ao, n, cap, markOf es.length⟩]) ∧ w'.ownsRow base 5 1 (.slice ao n cap) n (bys (List.replicate n (markOf es.length))) ∧ Kept (B :: rv.ownBlock.toList ++ (Value.slice ao n cap).ownBlock.toList) w w' ∧ (rv'.ownBlock = rv.ownBlock ∨ ∀ g, rv'.ownBlock = some g → w.heap.size ≤ g)

set_option maxHeartbeats 1500000 in
set_option maxRecDepth 100000 in
theorem bktake_ok {w : World} {base B : Nat} {rv : Value} {es : List En} (h : Bk w base B rv es) (hes : es.length ≤ 1000) (ao : Option Addr) (n cap : Nat) (ys : List UInt8) (hl : w.ownsRow base 5 1 (.slice ao n cap) n (bys ys)) (hn : n ≤ 100000000000) (hlB : (Value.slice ao n cap).ownBlock ≠ some B) (hlr : ∀ g, (Value.slice ao n cap).ownBlock = some g → rv.ownBlock ≠ some g) (hbase : base ≤ w.heap.size) :
    Calls Try.prog 26 #[.pointer (some ⟨B, 0, none⟩), .slice ao n cap] w fun e w' => e = .returned (.tuple #[]) ∧ TakeEnd w w' base B rv es ao n cap := by
  obtain ⟨i0, hi, hz0, hz1, hz2⟩ := info_parts' Try.infoRow
  have hz := Try.zeroRow
  obtain ⟨ro, rc, rfl⟩ := own_shape h.own
  have h0 := h.c0
  obtain ⟨L, hL⟩ : ∃ L, L = es.length := ⟨_, rfl⟩
  have HLE : Hid (L = es.length) := hL
  rw [← hL] at h h0 hes hlr ⊢
  clear hL
  have HBK : Hid (Bk w base B (.slice ro L rc) es) := h
  have HOL : Hid (w.ownsRow base 5 1 (.slice ao n cap) n (bys ys)) := hl
  have HYL : Hid (ys.length = n) := by have := hl.1; rw [bys_length] at this; show _ = _; omega
  have HD : Hid ((Value.slice ao n cap).ownBlock ≠ some B ∧ ∀ g, (Value.slice ao n cap).ownBlock = some g → (Value.slice ro L rc).ownBlock ≠ some g) := ⟨hlB, hlr⟩
  have HBS : Hid (base ≤ w.heap.size) := hbase
  obtain ⟨mc, hmc⟩ : ∃ mc, mc = markOf L := ⟨_, rfl⟩
  have HMC : Hid (mc = markOf L) := hmc
  have hmv : 1 + 2 * ((L : Int) % 100) = (mc.toNat : Int) := by rw [hmc, markOf_toNat]; omega
  have hmb : mc.toNat < 256 := mc.toNat_lt
  clear h hl hlB hlr hbase hmc
  go_enter Try.func26, Try.ntmps26
  go_wp2
  have HI : Hid (TkRel w (w.alloc (.cells #[.slice ao n cap, .slice ao n cap, .int .u8 mc.toNat] 92)) base ao n cap mc ys 0) := ⟨by simpa using Kept.nil_own HOL.out ((Kept.refl [] w).alloc _) (by simp), ((Kept.refl [] w).alloc _).mono (by simp)⟩
  obtain ⟨xb, hxb⟩ : ∃ xb, xb = w.heap.size := ⟨_, rfl⟩
  have HXB : Hid (∀ g, (Value.slice ao n cap).ownBlock = some g → g ≠ xb) := fun g hg e => by have := (HOL.out.lt g hg).2; omega
  have HCX : Hid (∀ wr, Kept (Value.slice ao n cap).ownBlock.toList (w.alloc (.cells #[.slice ao n cap, .slice ao n cap, .int .u8 mc.toNat] 92)) wr → wr.cell? ⟨xb, 0, none⟩ = some (.slice ao n cap) ∧ wr.cell? ⟨xb, 1, none⟩ = some (.slice ao n cap) ∧ wr.cell? ⟨xb, 2, none⟩ = some (.int .u8 mc.toNat)) := fun wr hk => by
    have hn : xb ∉ (Value.slice ao n cap).ownBlock.toList := fun hm => HXB.out xb (by simpa using hm) rfl
    refine ⟨hk.cellOf ?_ hn, hk.cellOf ?_ hn, hk.cellOf ?_ hn⟩ <;> rw [hxb] <;> simp
  have HK0 : Hid (Kept [] w (w.alloc (.cells #[.slice ao n cap, .slice ao n cap, .int .u8 mc.toNat] 92))) := (Kept.refl [] w).alloc _
  have HXW : Hid (w.heap.size ≤ xb) := by show _ ≤ _; omega
  rw [← hxb]
  generalize w.alloc _ = w1 at HI HCX HK0 ⊢
  clear hxb hz h0
  go_loopw [5] (fun y wr => ∃ k : Nat, k ≤ n ∧ y = .int .i64 k ∧ Hid (TkRel w wr base ao n cap mc ys k) ∧ Hid (Kept (Value.slice ao n cap).ownBlock.toList w1 wr)) (fun y wr => n - (intOf y).toNat)
  case atStart => exact ⟨0, Nat.zero_le _, rfl, HI, Kept.refl _ _⟩
  case round =>
    clear HI
    obtain ⟨k, hk, rfl, HR, HK1⟩ := hrel
    obtain ⟨x0, x1, x2⟩ := HCX.out wr HK1.out
    by_cases hlt : k < n
    · obtain ⟨g, rfl, ⟨u, hu⟩, hfz, hown⟩ := own_set HR.out.own hlt mc
      have HR2 : Hid (TkRel w (wr.setCell ⟨g, k, none⟩ (.int .u8 mc.toNat)) base (some ⟨g, 0, none⟩) n cap mc ys (k + 1)) := ⟨by rw [← set_over ys k mc (by rw [HYL.out]; exact hlt)]; exact hown, HR.out.kept.setCell (by simp [Value.ownBlock]) _⟩
      have HK2 : Hid (Kept (Value.slice (some ⟨g, 0, none⟩) n cap).ownBlock.toList w1 (wr.setCell ⟨g, k, none⟩ (.int .u8 mc.toNat))) := HK1.out.setCell (by simp [Value.ownBlock]) _
      clear hown HR HK1
      go_wp2
      go_roundw
      case rel => exact ⟨k + 1, by omega, by go_num, HR2, HK2⟩
      case measure => simp [intOf]; omega
    · obtain rfl : k = n := by omega
      have hBn : B ∉ (Value.slice ao k cap).ownBlock.toList := fun hm => HD.out.1 (by simpa using hm)
      have h0 := HR.out.kept.cellOf HBK.out.c0 hBn
      have f0 := (HR.out.kept.frozen (p := ⟨B, 0, none⟩) HBK.out.lt hBn).trans HBK.out.f0
      go_wp2
      have HOW : Hid (∀ ob, (wr.alloc ob).drew.ownsRow base 92 3 (.slice ro L rc) L (enRow es)) := fun ob => by
        have h1 := HBK.out.own
        rw [← HLE.out] at h1
        exact Kept.nil_own h1 ((HR.out.kept.alloc ob).drew) (fun g hg hm => HD.out.2 g (by simpa using hm) hg)
      have HSZ : Hid (base ≤ wr.heap.size) := Nat.le_trans HBS.out HR.out.kept.size
      have hBl : B < wr.heap.size := World.block_lt_of_cell? _ _ h0
      have hxl : xb < wr.heap.size := World.block_lt_of_cell? _ _ x0
      have HNB : Hid ((Value.slice ro L rc).ownBlock ≠ some B) := by have := HBK.out.ne; exact this
      have HNX : Hid ((Value.slice ro L rc).ownBlock ≠ some xb) := fun e => by
        have h1 := (HBK.out.own.lt xb e).2
        have h2 := HXW.out
        omega
      have HFZ : Hid (∀ ob, (wr.alloc ob).drew.frozen? ⟨B, 0, none⟩ = false) := fun ob => (((Kept.refl [] wr).alloc ob).drew.frozen (p := ⟨B, 0, none⟩) hBl (by simp)).trans f0
      have HCZ : Hid (∀ ob, (wr.alloc ob).drew.cell? ⟨B, 0, none⟩ = some (.slice ro L rc)) := fun ob => ((Kept.refl [] wr).alloc ob).drew.cellOf h0 (by simp)
      have HTE : Hid (∀ gg cap2 w2, w2.ownsRow base 92 3 (.slice (some ⟨gg, 0, none⟩) (L + 1) cap2) (L + 1) (enRow es ++ [.slice ao k cap, .slice ao k cap, .int .u8 mc.toNat]) → (wr.alloc (.cells #[.slice ao k cap, .slice ao k cap, .int .u8 mc.toNat] 92)).drew.grownBy w2 (Value.slice ro L rc).ownBlock → ((Value.slice ro L rc).ownBlock = some gg ∨ gg = wr.heap.size + 1) → TakeEnd w (w2.setCell ⟨B, 0, none⟩ (.slice (some ⟨gg, 0, none⟩) (L + 1) cap2)) base B (.slice ro L rc) es ao k cap) := by
        intro gg cap2 w2 hown2 hgrow hat
        have hrv : (Value.slice (some ⟨gg, 0, none⟩) (L + 1) cap2).ownBlock = some gg := rfl
        have hszr := HR.out.kept.size
        have hgB : gg ≠ B := fun e => by
          rcases hat with h1 | h1
          · exact HNB.out (by rw [h1, e])
          · omega
        have hkA : Kept (Value.slice ao k cap).ownBlock.toList w (wr.alloc (.cells #[.slice ao k cap, .slice ao k cap, .int .u8 mc.toNat] 92)).drew := (HR.out.kept.alloc _).drew
        have hkR : Kept (Value.slice ro L rc).ownBlock.toList wr w2 := (((Kept.refl _ wr).alloc _).drew).grown hgrow (fun g hg _ => by simp [hg])
        have hc2 := (hgrow.cell_far ⟨B, 0, none⟩ (by simp; omega) (Ne.symm HNB.out)).trans (HCZ.out _)
        have hf2 := (hgrow.frozen_far ⟨B, 0, none⟩ (by simp; omega) (Ne.symm HNB.out)).trans (HFZ.out _)
        have hk3 : Kept [B] w2 (w2.setCell ⟨B, 0, none⟩ (.slice (some ⟨gg, 0, none⟩) (L + 1) cap2)) := (Kept.refl [B] w2).setCell (by simp) _
        refine ⟨.slice (some ⟨gg, 0, none⟩) (L + 1) cap2, ⟨World.cell?_setCell_same _ _ _ hc2, by rw [World.frozen?_setCell]; exact hf2, ?_, by rw [hrv]; simpa using hgB⟩, ?_, ?_, ?_⟩
        · have e1 : (es ++ [(⟨ao, k, cap, ao, k, cap, markOf es.length⟩ : En)]).length = L + 1 := by rw [List.length_append, ← HLE.out]; rfl
          have e2 : enRow (es ++ [⟨ao, k, cap, ao, k, cap, markOf es.length⟩]) = enRow es ++ [.slice ao k cap, .slice ao k cap, .int .u8 mc.toNat] := by
            rw [HMC.out, HLE.out]
            simp [enRow, En.cells]
          rw [e1, e2]
          exact Kept.nil_own hown2 hk3 (fun g hg => by rw [hrv] at hg; cases hg; simpa using hgB)
        · have h1 := HR.out.own
          rw [List.drop_of_length_le (by rw [HYL.out]; exact Nat.le_refl _), List.append_nil, HMC.out, HLE.out] at h1
          exact Kept.nil_own (Kept.nil_own h1 hkR (fun g hg hm => HD.out.2 g hg (by simpa using hm))) hk3 (fun g hg hm => HD.out.1 (by rw [hg]; simp at hm; rw [hm]))
        · refine ((hkA.mono (fun i hi _ => ?_)).grown hgrow (fun g hg _ => by simp [hg])).setCell (by simp) _
          simp only [List.cons_append, List.mem_cons, List.mem_append]
          exact .inr (.inr hi)
        · rcases hat with h1 | h1
          · exact .inl (by rw [hrv, h1])
          · refine .inr fun g hg => ?_
            rw [hrv] at hg
            cases hg
            omega
      go_region_law ((refine step_append_keep _ (by rfl) _ _ _ (by rfl) base 92 i0 _ 3 56 Try.underlying65 hi hz0 hz1 hz2 rfl (by decide) (.slice ro L rc) L (enRow es) (by rfl) (HOW.out _) ⟨wr.heap.size, 0, none⟩ 1 1 [.slice ao k cap, .slice ao k cap, .int .u8 mc.toNat] (by rfl) (by rfl) (World.news_of_block (cs := #[.slice ao k cap, .slice ao k cap, .int .u8 mc.toNat]) (t := 92) (fr := (0, 0)) (heap_alloc_new wr _)) (by simp [Value.oneCell']) (by omega) (by unfold maxLen; omega) (by omega) (by have := HSZ.out; simp; omega) (wr.heap.size + 1) (by simp) ?_; intro gg cap2 w2 hown2 hgrow hat; have hf2 := (hgrow.frozen_far ⟨B, 0, none⟩ (by simp; omega) (Ne.symm HNB.out)).trans (HFZ.out _); have hc2 := (hgrow.cell_far ⟨B, 0, none⟩ (by simp; omega) (Ne.symm HNB.out)).trans (HCZ.out _); have HE := (show Hid _ from HTE.out gg cap2 w2 hown2 hgrow (hat.imp id And.left)); clear hown2 hgrow hat))
      all_goals (go_end0; exact ⟨rfl, HE.out⟩)

end Go.Proofs.Ytjmameknbnflaab
