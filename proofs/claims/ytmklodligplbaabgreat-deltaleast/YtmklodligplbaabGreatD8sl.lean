import Derived.Test.YtmklodligplbaabGreatD8pl
namespace Go.Proofs.YtmklodligplbaabGreat
open Go.RowKit
open Dlt
set_option linter.unusedVariables false
set_option linter.unusedSimpArgs false
theorem wp_append_run8 (w : World) {o : Oper} {a : Act} {K : Act → World → Prop} {Q : Exit → Act → World → Prop} (d s : Operand) (t : TypeId)
  (ho : o.op = .call { callee := .builtin .append, args := #[d, s], argTypes := #[t, t] }) (v u : Value) (hd : a.eval d = v) (hs : a.eval s = u) {v' : Value} {w' : World}
  (hr : (Builtin.append_ #[t, t] o.type #[v, u]).run Tryz.prog w = .ok v' w') (h : K (a.put o.dst v') w') : o.wp Tryz.prog a w K Q := by
 unfold Oper.wp execOp
 simp only [ho, resolve, invoke, builtin, Sem.run_bind, Sem.run_pure, Result.andThen_ok, List.map_toArray, List.map_cons, List.map_nil, hd, hs, hr]
 exact h
theorem wp_lookup_run8 (w : World) {o : Oper} {a : Act} {K : Act → World → Prop} {Q : Exit → Act → World → Prop} (d s : Operand) (t : TypeId)
  (ho : o.op = .lookup t d s false) (v u : Value) (hd : a.eval d = v) (hs : a.eval s = u) {v' : Value}
  (hr : (Instr.lookup t v u false).run Tryz.prog w = .ok v' w) (h : K (a.put o.dst v') w) : o.wp Tryz.prog a w K Q := by
 unfold Oper.wp execOp
 simp only [ho, Sem.run_bind, Sem.run_pure, Result.andThen_ok, hd, hs, hr]
 exact h
theorem wp_mapUpdate_run8 (w : World) {o : Oper} {a : Act} {K : Act → World → Prop} {Q : Exit → Act → World → Prop} (d s r : Operand) (t : TypeId)
  (ho : o.op = .mapUpdate t d s r) (v u x : Value) (hd : a.eval d = v) (hs : a.eval s = u) (hx : a.eval r = x) {w' : World}
  (hr : (Instr.mapUpdate t v u x).run Tryz.prog w = .ok () w') (h : K (a.put o.dst undef) w') : o.wp Tryz.prog a w K Q := by
 unfold Oper.wp execOp
 simp only [ho, Sem.run_bind, Sem.run_pure, Result.andThen_ok, hd, hs, hx, hr]
 exact h
def fdC (wd sz : Int) (ao : Option Addr) (n cap : Nat) (M : Option Nat) : List Value := [.int .i64 wd, .int .i64 sz, .slice ao n cap, .map M]
theorem Tryz.zeroFd (W : World) : (zeroValue 109).run Tryz.prog W = .ok (.agg (fdC 0 0 none 0 0 none).toArray) W := by kernel_rfl
theorem Tryz.infoFd : (Tryz.prog.info? 109).map (·.size) = some 4 := by kernel_rfl
theorem Tryz.builtFd (wd sz : Int) (ao : Option Addr) (n cap M : Nat) (W : World) : (Instr.build 109 #[(0, .int .i64 wd), (1, .int .i64 sz), (2, .slice ao n cap), (3, .map (some M))]).run Tryz.prog W = .ok (.agg (fdC wd sz ao n cap (some M)).toArray) W := by kernel_rfl
theorem fd_all (wd sz : Int) (ao : Option Addr) (n cap : Nat) (M : Option Nat) : (fdC wd sz ao n cap M).toArray.all (·.oneCell') = true := by simp [fdC, Value.oneCell']
theorem Tryz.infoFdA (wd sz : Int) (ao : Option Addr) (n cap : Nat) (M : Option Nat) : (Tryz.prog.info? 109).map (·.size) = some (fdC wd sz ao n cap M).toArray.size := Tryz.infoFd
structure FdAt (w : World) (g : Nat) (wd sz : Int) (ao : Option Addr) (n cap M : Nat) : Prop where
 row : w.heap[g]? = some (.cells (fdC wd sz ao n cap (some M)).toArray 109 (0, 0))
theorem FdAt.kept {l : List Nat} {w w' : World} {g : Nat} {wd sz : Int} {ao : Option Addr} {n cap M : Nat} (h : FdAt w g wd sz ao n cap M) (hk : Kept l w w') (hn : g ∉ l) : FdAt w' g wd sz ao n cap M := ⟨(hk.block g (Array.getElem?_eq_some_iff.1 h.row).1 hn).trans h.row⟩
theorem FdAt.c {w : World} {g : Nat} {wd sz : Int} {ao : Option Addr} {n cap M : Nat} (h : FdAt w g wd sz ao n cap M) {j : Nat} {u : Value} (hu : (fdC wd sz ao n cap (some M))[j]? = some u) : w.cell? ⟨g, j, none⟩ = some u := by rw [cell_of_row _ _ _ _ _ _ h.row]; simpa using hu
theorem FdAt.range {w : World} {g : Nat} {wd sz : Int} {ao : Option Addr} {n cap M : Nat} (h : FdAt w g wd sz ao n cap M) : w.rangeAt g 0 (fdC wd sz ao n cap (some M)) := row_rangeK h.row
theorem FdAt.new (w : World) (wd sz : Int) (ao : Option Addr) (n cap M : Nat) : FdAt (w.alloc (.cells (fdC wd sz ao n cap (some M)).toArray 109)) w.heap.size wd sz ao n cap M := ⟨heap_new w _⟩
theorem FdAt.lt {w : World} {g : Nat} {wd sz : Int} {ao : Option Addr} {n cap M : Nat} (h : FdAt w g wd sz ao n cap M) : g < w.heap.size := (Array.getElem?_eq_some_iff.1 h.row).1
theorem Fm.apartE {w w' : World} {base M E : Nat} {L : List Wk} {k : Nat} {K : List Int} {V : List Value} {cs : Array Value} (h : Fm w base M L k K V) (hk : Kept [E] w w') (hE : w.heap[E]? = some (.cells cs 109 (0, 0))) : Fm w' base M L k K V := by
 refine ⟨h.map.kept hk ?_, fun j x v h1 h2 => own_same (h.rows j x v h1 h2) (fun g hg => hk.block g (own_blk (h.rows j x v h1 h2) hg).2.1 ?_), h.full, h.apart⟩
 ·intro hm
  have e : M = E := by simpa using hm
  subst e
  obtain ⟨es, clock, hb, _⟩ := h.map
  rw [hb] at hE
  cases hE
 ·intro hm
  have e : g = E := by simpa using hm
  subst e
  obtain ⟨_, _, cur, hc⟩ := own_blk (h.rows j x v h1 h2) hg
  rw [hc] at hE
  cases hE
set_option maxHeartbeats 6400000 in
set_option maxRecDepth 100000 in
theorem finderOf_ok (s : Sig) (ao : Option Addr) (n cap : Nat) (w : World) (hI : SigIn w s ao n cap) (hn : n ≤ 1000000) :
  Calls Tryz.prog 67 #[.agg (s.cells (.slice ao n cap)).toArray] w fun e w' => ∃ M, e = .returned (.agg (fdC s.width s.size ao n cap (some M)).toArray) ∧ (∃ K V, Fm w' w.heap.size M s.blocks n K V) ∧ Kept [] w w' := by
 have hzf := Tryz.zeroFd
 have hzk := Tryz.zeroWeak
 have hmk : ∀ W : World, (Instr.makeMap 107 none).run Tryz.prog W = .ok (.map (some W.heap.size)) (W.alloc (.map #[] 0)) := fun _ => rfl
 obtain ⟨w1, hw1⟩ : ∃ w1, w.alloc (.cells (s.cells (.slice ao n cap)).toArray 26) = w1 := ⟨_, rfl⟩
 have hA : SigAt w1 w.heap.size s (.slice ao n cap) := by rw [← hw1]; exact SigAt.new w s (.slice ao n cap)
 have k1 : Kept [] w w1 := by rw [← hw1]; exact (Kept.refl [] w).alloc _
 have z1 : w1.heap.size = w.heap.size + 1 := by rw [← hw1]; simp
 obtain ⟨w2, hw2⟩ : ∃ w2, w1.alloc (.cells (fdC 0 0 none 0 0 none).toArray 109) = w2 := ⟨_, rfl⟩
 have k2 : Kept [] w1 w2 := by rw [← hw2]; exact (Kept.refl [] w1).alloc _
 have hE : w2.heap[w.heap.size + 1]? = some (.cells (fdC 0 0 none 0 0 none).toArray 109 (0, 0)) := by rw [← hw2, ← z1]; exact heap_new w1 _
 have hA2 := hA.kept k2 (by simp)
 have HI := hide hI
 clear hI hA
 go_enter Tryz.func67, Tryz.ntmps67
 go_upto_region 1 with (fail)
 first | rw [hw1, hw2] | rw [hw2] | skip
 obtain ⟨G, hG⟩ : ∃ G, w.heap.size = G := ⟨_, rfl⟩
 obtain ⟨E, hE0⟩ : ∃ E, w.heap.size + 1 = E := ⟨_, rfl⟩
 rw [hE0] at hE ⊢
 rw [hG] at hA2 ⊢
 have HG := hide (And.intro hG hE0)
 have HKW := hide (k1.trans k2 (by simp))
 clear hw1 hw2 z1 hG hE0 k1 k2
 have c0 := hA2.cell (s.c0 _)
 have c1 := hA2.cell (s.c1 _)
 have c4 := hA2.cell (s.cv _)
 obtain ⟨M, hM⟩ : ∃ M, w2.heap.size = M := ⟨_, rfl⟩
 have hbf := Tryz.builtFd s.width s.size ao n cap M
 have k3 : Kept [] w2 (w2.alloc (.map #[] 0)) := (Kept.refl [] w2).alloc _
 have hIk : Ik (w2.alloc (.map #[] 0)) M [] [] := by rw [← hM]; exact ⟨#[], 0, heap_new w2 _, MapKept.stamped_empty 0, by simp, by simp, by simp⟩
 have hnf := heap_new (w2.alloc (.map #[] 0)) (.cells (fdC 0 0 none 0 0 none).toArray 109)
 have hsz : (w2.alloc (.map #[] 0)).heap.size = M + 1 := by rw [← hM]; simp
 rw [hsz] at hnf
 go_upto_region 2 with (first
  | refine wpList_buildRun8 rfl 109 #[(0, .tmp 7), (1, .tmp 9), (2, .tmp 11), (3, .tmp 12)] rfl #[(0, .int .i64 s.width), (1, .int .i64 s.size), (2, .slice ao n cap), (3, .map (some M))] (by simp [Act.eval]) _ (hbf _) ?_
  | refine wpList_store_rowTo rfl 109 (.tmp 3) (.tmp 13) rfl rfl (M + 1) (fdC s.width s.size ao n cap (some M)).toArray rfl rfl 109 (fdC 0 0 none 0 0 none).toArray hnf (Tryz.infoFdA _ _ _ _ _ _) rfl (fd_all _ _ _ _ _ _) ?_)
 have k4 : Kept [] (w2.alloc (.map #[] 0)) (((w2.alloc (.map #[] 0)).alloc (.cells (fdC 0 0 none 0 0 none).toArray 109)).setRow (M + 1) (fdC s.width s.size ao n cap (some M)).toArray) := ((Kept.refl [] _).alloc _).trans (kept_row _ _ _) (by simp; omega)
 have hF0 : FdAt (((w2.alloc (.map #[] 0)).alloc (.cells (fdC 0 0 none 0 0 none).toArray 109)).setRow (M + 1) (fdC s.width s.size ao n cap (some M)).toArray) (M + 1) s.width s.size ao n cap M := ⟨setRow_heap _ _ _ _ _ _ hnf⟩
 have HGM : Hid (G < M ∧ E < M) := by
  have h1 := hA2.lt
  have h2 := (Array.getElem?_eq_some_iff.1 hE).1
  show G < M ∧ E < M
  omega
 have hM0 := hM
 clear hnf hsz hM hbf hmk c0 c1 c4
 generalize ((w2.alloc (.map #[] 0)).alloc (.cells (fdC 0 0 none 0 0 none).toArray 109)).setRow (M + 1) (fdC s.width s.size ao n cap (some M)).toArray = w4 at k4 hF0 ⊢
 have HW4 : Hid (Kept [] w w4 ∧ SigAt w4 G s (.slice ao n cap) ∧ w4.heap[E]? = some (.cells (fdC 0 0 none 0 0 none).toArray 109 (0, 0)) ∧ FdAt w4 (M + 1) s.width s.size ao n cap M ∧ ∃ K V, Fm w4 w.heap.size M s.blocks 0 K V) := by
  have k24 : Kept [] w2 w4 := k3.trans k4 (by simp)
  exact ⟨HKW.out.trans k24 (by simp), hA2.kept k24 (by simp), (k24.block E (Array.getElem?_eq_some_iff.1 hE).1 (by simp)).trans hE, hF0, [], [], Fm.start w4 w.heap.size M s.blocks (hIk.kept k4 (by simp))⟩
 obtain ⟨Fb, hFb⟩ : ∃ Fb, M + 1 = Fb := ⟨_, rfl⟩
 rw [hFb] at HW4 ⊢
 have HFB := hide hFb
 clear hFb k3 k4 hF0 hIk hA2 hE hM0 HKW
 have cv := HW4.out.2.1.cell (s.cv (.slice ao n cap))
 go_wp2
 go_loopw [17] (fun x wr => ∃ k : Nat, k ≤ n ∧ x = .int .i64 k ∧ Hid (Kept [] w wr ∧ SigAt wr G s (.slice ao n cap) ∧ wr.heap[E]? = some (.cells (fdC 0 0 none 0 0 none).toArray 109 (0, 0)) ∧ FdAt wr Fb s.width s.size ao n cap M ∧ ∃ K V, Fm wr w.heap.size M s.blocks k K V)) (fun x wr => n - (intOf x).toNat)
 case atStart => exact ⟨0, Nat.zero_le _, rfl, HW4⟩
 case round =>
  clear HW4 cv
  obtain ⟨k, hk, rfl, HP⟩ := hrel
  by_cases hlt : k < n
  ·obtain ⟨hkw, hA, hE, hF, K0, V0, hFm⟩ := HP.out
   clear HP
   have hkl : k < s.blocks.length := by rw [HI.out.len]; exact hlt
   obtain ⟨b, off, rfl, hrg⟩ := (HI.out.at_.kept hkw (by simp)) k hkl
   have HADD := hide (fun (v : Value) h1 h2 W h3 N h4 => hFm.add (v := v) (by omega) hkw.size h1 h2 W h3 N h4)
   obtain ⟨v, hlook, hown, hcase⟩ := hFm.look (s.blocks.getD k wk0).sum
   generalize s.blocks.getD k wk0 = e at *
   have hnz := heap_new wr (.cells zeroK 62)
   have hil := Tryz.infoWk e
   have hia := Tryz.infoWkA e
   have hzs := zeroK_size e
   have hal := wk_all e
   have hkv := withWk_kept wr e
   have hrw := row_rangeK (withWk_row wr e)
   go_upto_region 5 with (first | refine wpList_load_mid rfl 62 (.tmp 20) rfl b (off + k * 33) rfl e.cells _ hrg Tryz.underlying62 rfl hil ?_ | refine wpList_store_rowTo rfl 62 (.tmp 5) (.tmp 21) rfl rfl wr.heap.size e.cells.toArray rfl rfl 62 zeroK hnz hia hzs hal ?_)
   have hW : (wr.alloc (.cells zeroK 62)).setRow wr.heap.size e.cells.toArray = withWk wr e := rfl
   rw [hW]
   have HKV := hide hkv
   have hgl : ∀ g, v.ownBlock = some g → g < wr.heap.size := fun g hg => (own_blk hown hg).2.1
   have hgF : ∀ g, v.ownBlock = some g → g ≠ Fb := fun g hg e => by
    obtain ⟨_, _, cur, hc⟩ := own_blk hown hg
    rw [e, hF.row] at hc
    cases hc
   obtain ⟨V5, hV5⟩ : ∃ V5, wr.heap.size = V5 := ⟨_, rfl⟩
   rw [hV5] at hrw hgl ⊢
   have hM5 := hFm.map.lt
   have hF5 := hF.lt
   rw [hV5] at hM5 hF5
   have HNF : Hid (Fb ∉ M :: v.ownBlock.toList) := by
    show Fb ∉ _
    intro hm
    simp only [List.mem_cons, Option.mem_toList] at hm
    rcases hm with hm | hm
    ·have := HFB.out; omega
    ·exact hgF Fb hm rfl
   have HNV : Hid (V5 ∉ M :: v.ownBlock.toList) := by
    show V5 ∉ _
    intro hm
    simp only [List.mem_cons, Option.mem_toList] at hm
    rcases hm with hm | hm
    ·omega
    ·have := hgl V5 hm; omega
   have HO := hide (And.intro hkw (And.intro hA (And.intro hE (And.intro hF hFm))))
   have HLK := hide hlook
   have HOW := hide hown
   have HCS := hide hcase
   have c3 := (hF.kept hkv (by simp)).c (j := 3) (u := .map (some M)) rfl
   have cs := hrw 0 _ e.su
   rw [Nat.zero_add] at cs
   clear hrg hia hzs hal hnz hW hkv hil hlook hown hcase hgl hgF hM5 hF5 hV5 hkw hA hE hF hFm hrw
   have HKV2 : Hid (Kept [] wr (withWk wr e)) := HKV
   clear HKV
   generalize withWk wr e = w5 at HKV2 c3 cs ⊢
   have HGV : Hid (∀ g, v.ownBlock = some g → g ≠ G ∧ g ≠ E) := fun g hg => by
    obtain ⟨_, _, cur, hc⟩ := own_blk HOW.out hg
    refine ⟨fun ee => ?_, fun ee => ?_⟩
    ·subst ee; rw [HO.out.2.1.row] at hc; cases hc
    ·subst ee; rw [HO.out.2.2.1] at hc; cases hc
   have k0 : Kept [] w5 (World.drew w5) := (Kept.refl [] w5).drew
   refine wp_region_held_drew (S := fun w' => Kept (M :: v.ownBlock.toList) w5 w') (by kernel_rfl) ((Kept.refl (M :: v.ownBlock.toList) w5).drew) (fun h0 => ?_)
   generalize World.drew w5 = v0 at h0 k0 ⊢
   refine wpAnyH_take (i := 0) (v := .pointer (some ⟨Fb, 3, none⟩)) rfl (by kernel_rfl) (by kernel_rfl) (by kernel_rfl) (fun _ _ _ h => h) (Or.inl ⟨by rfl, fun w hSw => by go_simp⟩) h0 ?_
   try simp only [z1, z2, z3, z4, z5, z6, z7, z8]
   refine wpAnyH_take (i := 1) (v := .map (some M)) rfl (by kernel_rfl) (by kernel_rfl) (by kernel_rfl) (fun _ _ _ h => h) (Or.inl ⟨by rfl, fun w hSw => by have c0 := Kept.cellOf hSw c3 HNF.out; go_simp⟩) h0 ?_
   try simp only [z1, z2, z3, z4, z5, z6, z7, z8]
   refine wpAnyH_take (i := 2) (v := .pointer (some ⟨V5, 0, none⟩)) rfl (by kernel_rfl) (by kernel_rfl) (by kernel_rfl) (fun _ _ _ h => h) (Or.inl ⟨by rfl, fun w hSw => by go_simp⟩) h0 ?_
   try simp only [z1, z2, z3, z4, z5, z6, z7, z8]
   refine wpAnyH_take (i := 3) (v := .int .i64 e.sum) rfl (by kernel_rfl) (by kernel_rfl) (by kernel_rfl) (fun _ _ _ h => h) (Or.inl ⟨by rfl, fun w hSw => by have c0 := Kept.cellOf hSw cs HNV.out; go_simp⟩) h0 ?_
   try simp only [z1, z2, z3, z4, z5, z6, z7, z8]
   refine wpAnyH_take (i := 4) (v := .pointer (some ⟨Fb, 3, none⟩)) rfl (by kernel_rfl) (by kernel_rfl) (by kernel_rfl) (fun _ _ _ h => h) (Or.inl ⟨by rfl, fun w hSw => by go_simp⟩) h0 ?_
   try simp only [z1, z2, z3, z4, z5, z6, z7, z8]
   refine wpAnyH_take (i := 5) (v := .map (some M)) rfl (by kernel_rfl) (by kernel_rfl) (by kernel_rfl) (fun _ _ _ h => h) (Or.inl ⟨by rfl, fun w hSw => by have c0 := Kept.cellOf hSw c3 HNF.out; go_simp⟩) h0 ?_
   try simp only [z1, z2, z3, z4, z5, z6, z7, z8]
   refine wpAnyH_take (i := 6) (v := .pointer (some ⟨V5, 0, none⟩)) rfl (by kernel_rfl) (by kernel_rfl) (by kernel_rfl) (fun _ _ _ h => h) (Or.inl ⟨by rfl, fun w hSw => by go_simp⟩) h0 ?_
   try simp only [z1, z2, z3, z4, z5, z6, z7, z8]
   refine wpAnyH_take (i := 7) (v := .int .i64 e.sum) rfl (by kernel_rfl) (by kernel_rfl) (by kernel_rfl) (fun _ _ _ h => h) (Or.inl ⟨by rfl, fun w hSw => by have c0 := Kept.cellOf hSw cs HNV.out; go_simp⟩) h0 ?_
   try simp only [z1, z2, z3, z4, z5, z6, z7, z8]
   refine wpAnyH_take (i := 9) (v := .int .i64 k) rfl (by kernel_rfl) (by kernel_rfl) (by kernel_rfl) (fun _ _ _ h => h) (Or.inl ⟨by rfl, fun w hSw => by go_simp⟩) h0 ?_
   try simp only [z1, z2, z3, z4, z5, z6, z7, z8]
   have KK := HKV2.out.trans k0 (by simp)
   refine wpAnyH_ready (rs := [8, 10]) (by kernel_rfl) (by simp) (AllReadyH.cons (i := 8) rfl (fun K hK => ?_) (AllReadyH.cons (i := 10) rfl (fun K hK => ?_) AllReadyH.nil))
   ·rw [if_pos (by rfl)]
    refine wp_lookup_run8 _ _ _ 107 rfl _ _ rfl rfl (HLK.out v0 KK) ?_
    refine hK.out _ _ h0 (fun h0 => ?_)
    clear hK K
    try simp only [z1, z2, z3, z4, z5, z6, z7, z8]
    refine wpAnyH_ready (rs := [10]) (by kernel_rfl) (by simp) (AllReadyH.cons (i := 10) rfl (fun K hK => ?_) AllReadyH.nil)
    rw [if_pos (by rfl)]
    go_simp
    refine hK.out _ _ (h0.alloc _) (fun h1 => ?_)
    clear hK K h1
    try simp only [z1, z2, z3, z4, z5, z6, z7, z8]
    obtain ⟨v', W2, W3, hap, hup, hF3, hk2, hk3⟩ := HADD.out v HOW.out HCS.out (v0.alloc (.cells #[.int .i64 k] 3)) (KK.trans ((Kept.refl [] v0).alloc _) (by simp)) v0.heap.size (by rw [cell_of_row _ _ _ _ _ _ (heap_new v0 _)]; rfl)
    refine wpAnyH_ready (rs := [11]) (by kernel_rfl) (by simp) (AllReadyH.cons (i := 11) rfl (fun K hK => ?_) AllReadyH.nil)
    rw [if_pos (by rfl)]
    refine wp_append_run8 _ _ _ 155 rfl _ _ rfl rfl hap ?_
    refine hK.out _ _ ((h0.alloc _).trans hk2 (fun i hi _ => by simp [hi])) (fun h2 => ?_)
    clear hK K
    try simp only [z1, z2, z3, z4, z5, z6, z7, z8]
    refine wpAnyH_ready (rs := [12]) (by kernel_rfl) (by simp) (AllReadyH.cons (i := 12) rfl (fun K hK => ?_) AllReadyH.nil)
    rw [if_pos (by rfl)]
    refine wp_mapUpdate_run8 _ _ _ _ 107 rfl _ _ _ rfl rfl rfl hup ?_
    refine hK.out _ _ (h2.trans hk3 (by simp)) (fun h3 => ?_)
    clear hK K
    try simp only [z1, z2, z3, z4, z5, z6, z7, z8]
    refine wpAnyH_done (by kernel_rfl) ?_ _
    have hkT : Kept (M :: v.ownBlock.toList) wr W3 := ((HKV2.out.mono (l2 := M :: v.ownBlock.toList) (by simp)).trans h3 (fun i hi _ => hi))
    have HPF : Hid (Kept [] w W3 ∧ SigAt W3 G s (.slice (some ⟨b, off, none⟩) n cap) ∧ W3.heap[E]? = some (.cells (fdC 0 0 none 0 0 none).toArray 109 (0, 0)) ∧ FdAt W3 Fb s.width s.size (some ⟨b, off, none⟩) n cap M ∧ ∃ K V, Fm W3 w.heap.size M s.blocks (k + 1) K V) := by
     have nG : G ∉ M :: v.ownBlock.toList := by intro hm; simp only [List.mem_cons, Option.mem_toList] at hm; rcases hm with hm | hm; (have := HGM.out; omega); exact (HGV.out G hm).1 rfl
     have nE : E ∉ M :: v.ownBlock.toList := by intro hm; simp only [List.mem_cons, Option.mem_toList] at hm; rcases hm with hm | hm; (have := HGM.out; omega); exact (HGV.out E hm).2 rfl
     refine ⟨HO.out.1.trans hkT (fun i hi hl => ?_), HO.out.2.1.kept hkT nG, (hkT.block E (Array.getElem?_eq_some_iff.1 HO.out.2.2.1).1 nE).trans HO.out.2.2.1, HO.out.2.2.2.1.kept hkT HNF.out, hF3⟩
     simp only [List.mem_cons, Option.mem_toList] at hi
     rcases hi with hi | hi
     ·have := HGM.out; have := HG.out; omega
     ·have := (own_blk HOW.out hi).1; omega
    clear hF3 hk2 hk3 hap hup h0 h2 h3 k0 KK hkT HADD HKV2 HO HLK HOW HCS c3 cs
    go_wp2
    go_roundw
    case rel => exact ⟨k + 1, by omega, by go_num, HPF⟩
    case measure => simp [intOf]; omega
   ·rw [if_pos (by rfl)]
    go_simp
    refine hK.out _ _ (h0.alloc _) (fun h1 => ?_)
    clear hK K h1
    try simp only [z1, z2, z3, z4, z5, z6, z7, z8]
    refine wpAnyH_ready (rs := [8]) (by kernel_rfl) (by simp) (AllReadyH.cons (i := 8) rfl (fun K hK => ?_) AllReadyH.nil)
    rw [if_pos (by rfl)]
    refine wp_lookup_run8 _ _ _ 107 rfl _ _ rfl rfl (HLK.out _ (KK.trans ((Kept.refl [] v0).alloc _) (by simp))) ?_
    refine hK.out _ _ (h0.alloc _) (fun h1 => ?_)
    clear hK K h1
    try simp only [z1, z2, z3, z4, z5, z6, z7, z8]
    obtain ⟨v', W2, W3, hap, hup, hF3, hk2, hk3⟩ := HADD.out v HOW.out HCS.out (v0.alloc (.cells #[.int .i64 k] 3)) (KK.trans ((Kept.refl [] v0).alloc _) (by simp)) v0.heap.size (by rw [cell_of_row _ _ _ _ _ _ (heap_new v0 _)]; rfl)
    refine wpAnyH_ready (rs := [11]) (by kernel_rfl) (by simp) (AllReadyH.cons (i := 11) rfl (fun K hK => ?_) AllReadyH.nil)
    rw [if_pos (by rfl)]
    refine wp_append_run8 _ _ _ 155 rfl _ _ rfl rfl hap ?_
    refine hK.out _ _ ((h0.alloc _).trans hk2 (fun i hi _ => by simp [hi])) (fun h2 => ?_)
    clear hK K
    try simp only [z1, z2, z3, z4, z5, z6, z7, z8]
    refine wpAnyH_ready (rs := [12]) (by kernel_rfl) (by simp) (AllReadyH.cons (i := 12) rfl (fun K hK => ?_) AllReadyH.nil)
    rw [if_pos (by rfl)]
    refine wp_mapUpdate_run8 _ _ _ _ 107 rfl _ _ _ rfl rfl rfl hup ?_
    refine hK.out _ _ (h2.trans hk3 (by simp)) (fun h3 => ?_)
    clear hK K
    try simp only [z1, z2, z3, z4, z5, z6, z7, z8]
    refine wpAnyH_done (by kernel_rfl) ?_ _
    have hkT : Kept (M :: v.ownBlock.toList) wr W3 := ((HKV2.out.mono (l2 := M :: v.ownBlock.toList) (by simp)).trans h3 (fun i hi _ => hi))
    have HPF : Hid (Kept [] w W3 ∧ SigAt W3 G s (.slice (some ⟨b, off, none⟩) n cap) ∧ W3.heap[E]? = some (.cells (fdC 0 0 none 0 0 none).toArray 109 (0, 0)) ∧ FdAt W3 Fb s.width s.size (some ⟨b, off, none⟩) n cap M ∧ ∃ K V, Fm W3 w.heap.size M s.blocks (k + 1) K V) := by
     have nG : G ∉ M :: v.ownBlock.toList := by intro hm; simp only [List.mem_cons, Option.mem_toList] at hm; rcases hm with hm | hm; (have := HGM.out; omega); exact (HGV.out G hm).1 rfl
     have nE : E ∉ M :: v.ownBlock.toList := by intro hm; simp only [List.mem_cons, Option.mem_toList] at hm; rcases hm with hm | hm; (have := HGM.out; omega); exact (HGV.out E hm).2 rfl
     refine ⟨HO.out.1.trans hkT (fun i hi hl => ?_), HO.out.2.1.kept hkT nG, (hkT.block E (Array.getElem?_eq_some_iff.1 HO.out.2.2.1).1 nE).trans HO.out.2.2.1, HO.out.2.2.2.1.kept hkT HNF.out, hF3⟩
     simp only [List.mem_cons, Option.mem_toList] at hi
     rcases hi with hi | hi
     ·have := HGM.out; have := HG.out; omega
     ·have := (own_blk HOW.out hi).1; omega
    clear hF3 hk2 hk3 hap hup h0 h2 h3 k0 KK hkT HADD HKV2 HO HLK HOW HCS c3 cs
    go_wp2
    go_roundw
    case rel => exact ⟨k + 1, by omega, by go_num, HPF⟩
    case measure => simp [intOf]; omega
  ·obtain rfl : k = n := by omega
   obtain ⟨hkw, hA, hE, hF, K0, V0, hFm⟩ := HP.out
   clear HP
   have hrg := hF.range
   have hkE := kept_row wr E (fdC s.width s.size ao k cap (some M)).toArray
   have HEN := hide (And.intro (hkw.trans hkE (fun i hi hl => by simp only [List.mem_singleton] at hi; have := HG.out; omega)) hFm)
   clear hkw hA hF hFm
   go_wp2_with (first
    | refine wpList_load_mid rfl 109 (.tmp 3) rfl Fb 0 rfl (fdC s.width s.size ao k cap (some M)) _ hrg Tryz.underlying109 rfl Tryz.infoFd ?_
    | refine wpList_store_rowTo rfl 109 (.tmp 2) (.tmp 35) rfl rfl E (fdC s.width s.size ao k cap (some M)).toArray rfl rfl 109 (fdC 0 0 none 0 0 none).toArray hE (Tryz.infoFdA _ _ _ _ _ _) rfl (fd_all _ _ _ _ _ _) ?_)
   have hFE : Fm (wr.setRow E (fdC s.width s.size ao k cap (some M)).toArray) w.heap.size M s.blocks k K0 V0 := HEN.out.2.apartE hkE hE
   exact ret_row rfl rfl E 109 (fdC s.width s.size ao k cap (some M)).toArray (0, 0) _ rfl (setRow_heap _ _ _ _ _ _ hE) Tryz.underlying109 rfl Tryz.infoFd ⟨M, rfl, ⟨K0, V0, hFE⟩, HEN.out.1⟩
end Go.Proofs.YtmklodligplbaabGreat
