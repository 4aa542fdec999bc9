import Derived.Test.YtmklodligplbaabGreatD8oo
import Derived.Laws.StructEq
import Derived.ChangeKeysEq
open Go.RowKit
set_option linter.unusedVariables false
set_option linter.unusedSimpArgs false
set_option maxRecDepth 100000
set_option maxHeartbeats 0
namespace Go.Proofs.YtmklodligplbaabGreat
section
open Dlt
theorem wp_append_run8 (w : World) {o : Oper} {a : Act} {K : Act -> World -> Prop} {Q : Exit -> Act -> World -> Prop} (d s : Operand) (t : TypeId)
  (ho : o.op = .call { callee := .builtin .append, args := #[d, s], argTypes := #[t, t] }) (v u : Value) (hd : a.eval d = v) (hs : a.eval s = u) {v' : Value} {w' : World}
  (hr : (Builtin.append_ #[t, t] o.type #[v, u]).run Tryz.prog w = .ok v' w') (h : K (a.put o.dst v') w') : o.wp Tryz.prog a w K Q := by
 unfold Oper.wp execOp
 simp only [ho, resolve, invoke, builtin, Sem.run_bind, Sem.run_pure, Result.andThen_ok, List.map_toArray, List.map_cons, List.map_nil, hd, hs, hr]
 exact h
theorem wp_lookup_run8 (w : World) {o : Oper} {a : Act} {K : Act -> World -> Prop} {Q : Exit -> Act -> World -> Prop} (d s : Operand) (t : TypeId)
  (ho : o.op = .lookup t d s false) (v u : Value) (hd : a.eval d = v) (hs : a.eval s = u) {v' : Value}
  (hr : (Instr.lookup t v u false).run Tryz.prog w = .ok v' w) (h : K (a.put o.dst v') w) : o.wp Tryz.prog a w K Q := by
 unfold Oper.wp execOp
 simp only [ho, Sem.run_bind, Sem.run_pure, Result.andThen_ok, hd, hs, hr]
 exact h
theorem wp_mapUpdate_run8 (w : World) {o : Oper} {a : Act} {K : Act -> World -> Prop} {Q : Exit -> Act -> World -> Prop} (d s r : Operand) (t : TypeId)
  (ho : o.op = .mapUpdate t d s r) (v u x : Value) (hd : a.eval d = v) (hs : a.eval s = u) (hx : a.eval r = x) {w' : World}
  (hr : (Instr.mapUpdate t v u x).run Tryz.prog w = .ok () w') (h : K (a.put o.dst undef) w') : o.wp Tryz.prog a w K Q := by
 unfold Oper.wp execOp
 simp only [ho, Sem.run_bind, Sem.run_pure, Result.andThen_ok, hd, hs, hx, hr]
 exact h
def fdC (wd sz : Int) (ao : Option Addr) (n cap : Nat) (M : Option Nat) : List Value := [.int .i64 wd, .int .i64 sz, .slice ao n cap, .map M]
theorem Tryz.zeroFd (W : World) : (zeroValue 109).run Tryz.prog W = .ok (.agg (fdC 0 0 none 0 0 none).toArray) W := by kernel_rfl
theorem Tryz.infoFd : (Tryz.prog.info? 109).map (·.size) = some 4 := by kernel_rfl
theorem Tryz.builtFd (wd sz : Int) (ao : Option Addr) (n cap M : Nat) (W : World) : (Instr.build 109 #[(0, .int .i64 wd), (1, .int .i64 sz), (2, .slice ao n cap), (3, .map (some M))]).run Tryz.prog W = .ok (.agg (fdC wd sz ao n cap (some M)).toArray) W := by kernel_rfl
theorem fd_all (wd sz : Int) (ao : Option Addr) (n cap : Nat) (M : Option Nat) : (fdC wd sz ao n cap M).toArray.all (·.oneCell') = true := by simp [fdC, Value.oneCell']
theorem Tryz.infoFdA (wd sz : Int) (ao : Option Addr) (n cap : Nat) (M : Option Nat) : (Tryz.prog.info? 109).map (·.size) = some (fdC wd sz ao n cap M).toArray.size := Tryz.infoFd
structure FdAt (w : World) (g : Nat) (wd sz : Int) (ao : Option Addr) (n cap M : Nat) : Prop where
 row : w.heap[g]? = some (.cells (fdC wd sz ao n cap (some M)).toArray 109 (0, 0))
theorem FdAt.kept {l : List Nat} {w w' : World} {g : Nat} {wd sz : Int} {ao : Option Addr} {n cap M : Nat} (h : FdAt w g wd sz ao n cap M) (hk : Kept l w w') (hn : g ∉ l) : FdAt w' g wd sz ao n cap M := ⟨(hk.block g (gs h.row).1 hn).trans h.row⟩
theorem FdAt.c {w : World} {g : Nat} {wd sz : Int} {ao : Option Addr} {n cap M : Nat} (h : FdAt w g wd sz ao n cap M) {j : Nat} {u : Value} (hu : (fdC wd sz ao n cap (some M))[j]? = some u) : w.cell? ⟨g, j, none⟩ = some u := by rw [cell_of_row _ _ _ _ _ _ h.row]; simpa using hu
theorem FdAt.range {w : World} {g : Nat} {wd sz : Int} {ao : Option Addr} {n cap M : Nat} (h : FdAt w g wd sz ao n cap M) : w.rangeAt g 0 (fdC wd sz ao n cap (some M)) := row_rangeK h.row
theorem FdAt.new (w : World) (wd sz : Int) (ao : Option Addr) (n cap M : Nat) : FdAt (w.alloc (.cells (fdC wd sz ao n cap (some M)).toArray 109)) w.heap.size wd sz ao n cap M := ⟨heap_new w _⟩
theorem FdAt.lt {w : World} {g : Nat} {wd sz : Int} {ao : Option Addr} {n cap M : Nat} (h : FdAt w g wd sz ao n cap M) : g < w.heap.size := (gs h.row).1
theorem Fm.apartE {w w' : World} {base M E : Nat} {L : List Wk} {k : Nat} {K : List Int} {V : List Value} {cs : Array Value} (h : Fm w base M L k K V) (hk : Kept [E] w w') (hE : w.heap[E]? = some (.cells cs 109 (0, 0))) : Fm w' base M L k K V := by
 refine ⟨h.map.kept hk ?_, fun j x v h1 h2 => own_same (h.rows j x v h1 h2) (fun g hg => hk.block g (own_blk (h.rows j x v h1 h2) hg).2.1 ?_), h.full, h.apart⟩
 ·intro hm
  have e : M = E := by simpa using hm
  subst e
  obtain ⟨es, clock, hb, _⟩ := h.map
  rw [hb] at hE
  cases hE
 ·intro hm
  have e : g = E := by simpa using hm
  subst e
  obtain ⟨_, _, cur, hc⟩ := own_blk (h.rows j x v h1 h2) hg
  rw [hc] at hE
  cases hE
theorem finderOf_ok (s : Sig) (ao : Option Addr) (n cap : Nat) (w : World) (hI : SigIn w s ao n cap) (hn : n <= 1000000) :
  Calls Tryz.prog 67 #[.agg (s.cells (.slice ao n cap)).toArray] w fun e w' => ∃ M, e = .returned (.agg (fdC s.width s.size ao n cap (some M)).toArray) ∧ (∃ K V, Fm w' w.heap.size M s.blocks n K V) ∧ Kept [] w w' := by
 have hzf := Tryz.zeroFd
 have hzk := Tryz.zeroWeak
 have hmk : ∀ W : World, (Instr.makeMap 107 none).run Tryz.prog W = .ok (.map (some W.heap.size)) (W.alloc (.map #[] 0)) := fun _ => rfl
 obtain ⟨w1, hw1⟩ := nm (w.alloc (.cells (s.cells (.slice ao n cap)).toArray 26))
 have hA : SigAt w1 w.heap.size s (.slice ao n cap) := by rw [<-hw1]; exact SigAt.new w s (.slice ao n cap)
 have k1 : Kept [] w w1 := by rw [<-hw1]; exact (Kept.refl [] w).alloc _
 have z1 : w1.heap.size = w.heap.size + 1 := by rw [<-hw1]; simp
 obtain ⟨w2, hw2⟩ := nm (w1.alloc (.cells (fdC 0 0 none 0 0 none).toArray 109))
 have k2 : Kept [] w1 w2 := by rw [<-hw2]; exact (Kept.refl [] w1).alloc _
 have hE : w2.heap[w.heap.size + 1]? = some (.cells (fdC 0 0 none 0 0 none).toArray 109 (0, 0)) := by rw [<-hw2, <-z1]; exact heap_new w1 _
 have hA2 := hA.kept k2 (by simp)
 have HI := hide hI
 clear hI hA
 go_enter Tryz.func67, Tryz.ntmps67
 go_upto_region 1 with (fail)
 first | rw [hw1, hw2] | rw [hw2] | skip
 obtain ⟨G, hG⟩ := nm (w.heap.size)
 obtain ⟨E, hE0⟩ := nm (w.heap.size + 1)
 rw [hE0] at hE ⊢
 rw [hG] at hA2 ⊢
 have HG := hide (ai hG hE0)
 have HKW := hide (k1.tr k2)
 clear hw1 hw2 z1 hG hE0 k1 k2
 have c0 := hA2.cell (s.c0 _)
 have c1 := hA2.cell (s.c1 _)
 have c4 := hA2.cell (s.cv _)
 obtain ⟨M, hM⟩ := nm (w2.heap.size)
 have hbf := Tryz.builtFd s.width s.size ao n cap M
 have k3 := ka w2 (.map #[] 0)
 have hIk : Ik (w2.alloc (.map #[] 0)) M [] [] := by rw [<-hM]; exact ⟨#[], 0, heap_new w2 _, MapKept.stamped_empty 0, by simp, by simp, by simp⟩
 have hnf := heap_new (w2.alloc (.map #[] 0)) (.cells (fdC 0 0 none 0 0 none).toArray 109)
 have hsz : (w2.alloc (.map #[] 0)).heap.size = M + 1 := by rw [<-hM]; simp
 rw [hsz] at hnf
 go_upto_region 2 with (first
  | refine wpList_buildRun8 rfl 109 #[(0, .tmp 7), (1, .tmp 9), (2, .tmp 11), (3, .tmp 12)] rfl #[(0, .int .i64 s.width), (1, .int .i64 s.size), (2, .slice ao n cap), (3, .map (some M))] (by simp [Act.eval]) _ (hbf _) ?_
  | refine wpList_store_rowTo rfl 109 (.tmp 3) (.tmp 13) rfl rfl (M + 1) (fdC s.width s.size ao n cap (some M)).toArray rfl rfl 109 (fdC 0 0 none 0 0 none).toArray hnf (Tryz.infoFdA _ _ _ _ _ _) rfl (fd_all _ _ _ _ _ _) ?_)
 have k4 : Kept [] (w2.alloc (.map #[] 0)) (((w2.alloc (.map #[] 0)).alloc (.cells (fdC 0 0 none 0 0 none).toArray 109)).setRow (M + 1) (fdC s.width s.size ao n cap (some M)).toArray) := ((Kept.refl [] _).alloc _).trans (kept_row _ _ _) (by simp; omega)
 have hF0 : FdAt (((w2.alloc (.map #[] 0)).alloc (.cells (fdC 0 0 none 0 0 none).toArray 109)).setRow (M + 1) (fdC s.width s.size ao n cap (some M)).toArray) (M + 1) s.width s.size ao n cap M := ⟨setRow_heap _ _ _ _ _ _ hnf⟩
 have HGM : Hid (G < M ∧ E < M) := by
  have h1 := hA2.lt
  have h2 := (gs hE).1
  show G < M ∧ E < M
  omega
 have hM0 := hM
 clear hnf hsz hM hbf hmk c0 c1 c4
 generalize ((w2.alloc (.map #[] 0)).alloc (.cells (fdC 0 0 none 0 0 none).toArray 109)).setRow (M + 1) (fdC s.width s.size ao n cap (some M)).toArray = w4 at k4 hF0 ⊢
 have HW4 : Hid (Kept [] w w4 ∧ SigAt w4 G s (.slice ao n cap) ∧ w4.heap[E]? = some (.cells (fdC 0 0 none 0 0 none).toArray 109 (0, 0)) ∧ FdAt w4 (M + 1) s.width s.size ao n cap M ∧ ∃ K V, Fm w4 w.heap.size M s.blocks 0 K V) := by
  have k24 : Kept [] w2 w4 := k3.tr k4
  exact ⟨HKW.out.tr k24, hA2.kept k24 (by simp), (k24.block E (gs hE).1 (by simp)).trans hE, hF0, [], [], Fm.start w4 w.heap.size M s.blocks (hIk.kept k4 (by simp))⟩
 obtain ⟨Fb, hFb⟩ := nm (M + 1)
 rw [hFb] at HW4 ⊢
 have HFB := hide hFb
 clear hFb k3 k4 hF0 hIk hA2 hE hM0 HKW
 have cv := HW4.out.2.1.cell (s.cv (.slice ao n cap))
 go_wp2
 go_loopw [17] (fun x wr => ∃ k : Nat, k <= n ∧ x = .int .i64 k ∧ Hid (Kept [] w wr ∧ SigAt wr G s (.slice ao n cap) ∧ wr.heap[E]? = some (.cells (fdC 0 0 none 0 0 none).toArray 109 (0, 0)) ∧ FdAt wr Fb s.width s.size ao n cap M ∧ ∃ K V, Fm wr w.heap.size M s.blocks k K V)) (fun x wr => n - (intOf x).toNat)
 case atStart => exact ⟨0, Nat.zero_le _, rfl, HW4⟩
 case round =>
  clear HW4 cv
  obtain ⟨k, hk, rfl, HP⟩ := hrel
  by_cases hlt : k < n
  ·obtain ⟨hkw, hA, hE, hF, K0, V0, hFm⟩ := HP.out
   clear HP
   have hkl : k < s.blocks.length := by rw [HI.out.len]; exact hlt
   obtain ⟨b, off, rfl, hrg⟩ := (HI.out.at_.kept hkw (by simp)) k hkl
   have HADD := hide (fun (v : Value) h1 h2 W h3 N h4 => hFm.add (v := v) (by omega) hkw.size h1 h2 W h3 N h4)
   obtain ⟨v, hlook, hown, hcase⟩ := hFm.look (s.blocks.getD k wk0).sum
   generalize s.blocks.getD k wk0 = e at *
   have hnz := heap_new wr (.cells zeroK 62)
   have hil := Tryz.infoWk e
   have hia := Tryz.infoWkA e
   have hzs := zeroK_size e
   have hal := wk_all e
   have hkv := withWk_kept wr e
   have hrw := row_rangeK (withWk_row wr e)
   go_upto_region 5 with (first | refine wpList_load_mid rfl 62 (.tmp 20) rfl b (off + k * 33) rfl e.cells _ hrg Tryz.underlying62 rfl hil ?_ | refine wpList_store_rowTo rfl 62 (.tmp 5) (.tmp 21) rfl rfl wr.heap.size e.cells.toArray rfl rfl 62 zeroK hnz hia hzs hal ?_)
   have hW : (wr.alloc (.cells zeroK 62)).setRow wr.heap.size e.cells.toArray = withWk wr e := rfl
   rw [hW]
   have HKV := hide hkv
   have hgl : ∀ g, v.ownBlock = some g -> g < wr.heap.size := fun g hg => (own_blk hown hg).2.1
   have hgF : ∀ g, v.ownBlock = some g -> g ≠ Fb := fun g hg e => by
    obtain ⟨_, _, cur, hc⟩ := own_blk hown hg
    rw [e, hF.row] at hc
    cases hc
   obtain ⟨V5, hV5⟩ := nm (wr.heap.size)
   rw [hV5] at hrw hgl ⊢
   have hM5 := hFm.map.lt
   have hF5 := hF.lt
   rw [hV5] at hM5 hF5
   have HNF : Hid (Fb ∉ M :: v.ownBlock.toList) := by
    show Fb ∉ _
    intro hm
    simp only [List.mem_cons, Option.mem_toList] at hm
    rcases hm with hm | hm
    ·have := HFB.out; omega
    ·exact hgF Fb hm rfl
   have HNV : Hid (V5 ∉ M :: v.ownBlock.toList) := by
    show V5 ∉ _
    intro hm
    simp only [List.mem_cons, Option.mem_toList] at hm
    rcases hm with hm | hm
    ·omega
    ·have := hgl V5 hm; omega
   have HO := hide (ai hkw (ai hA (ai hE (ai hF hFm))))
   have HLK := hide hlook
   have HOW := hide hown
   have HCS := hide hcase
   have c3 := (hF.kept hkv (by simp)).c (j := 3) (u := .map (some M)) rfl
   have cs := hrw 0 _ e.su
   rw [Nat.zero_add] at cs
   clear hrg hia hzs hal hnz hW hkv hil hlook hown hcase hgl hgF hM5 hF5 hV5 hkw hA hE hF hFm hrw
   have HKV2 : Hid (Kept [] wr (withWk wr e)) := HKV
   clear HKV
   generalize withWk wr e = w5 at HKV2 c3 cs ⊢
   have HGV : Hid (∀ g, v.ownBlock = some g -> g ≠ G ∧ g ≠ E) := fun g hg => by
    obtain ⟨_, _, cur, hc⟩ := own_blk HOW.out hg
    refine ⟨fun ee => ?_, fun ee => ?_⟩
    ·subst ee; rw [HO.out.2.1.row] at hc; cases hc
    ·subst ee; rw [HO.out.2.2.1] at hc; cases hc
   have k0 : Kept [] w5 (World.drew w5) := (Kept.refl [] w5).drew
   refine wp_region_held_drew (S := fun w' => Kept (M :: v.ownBlock.toList) w5 w') (by kernel_rfl) ((Kept.refl (M :: v.ownBlock.toList) w5).drew) (fun h0 => ?_)
   generalize World.drew w5 = v0 at h0 k0 ⊢
   refine t1 0 (.pointer (some ⟨Fb, 3, none⟩)) h0 ?_
   simp only [zz]
   refine t2 1 (.map (some M)) rfl h0 ?_ (fun w hSw => by have c0 := Kept.cellOf hSw c3 HNF.out; go_simp)
   simp only [zz]
   refine t1 2 (.pointer (some ⟨V5, 0, none⟩)) h0 ?_
   simp only [zz]
   refine t2 3 (.int .i64 e.sum) rfl h0 ?_ (fun w hSw => by have c0 := Kept.cellOf hSw cs HNV.out; go_simp)
   simp only [zz]
   refine t1 4 (.pointer (some ⟨Fb, 3, none⟩)) h0 ?_
   simp only [zz]
   refine t2 5 (.map (some M)) rfl h0 ?_ (fun w hSw => by have c0 := Kept.cellOf hSw c3 HNF.out; go_simp)
   simp only [zz]
   refine t1 6 (.pointer (some ⟨V5, 0, none⟩)) h0 ?_
   simp only [zz]
   refine t2 7 (.int .i64 e.sum) rfl h0 ?_ (fun w hSw => by have c0 := Kept.cellOf hSw cs HNV.out; go_simp)
   simp only [zz]
   refine t1 9 (.int .i64 k) h0 ?_
   simp only [zz]
   have KK := HKV2.out.tr k0
   refine wpAnyH_ready (rs := [8, 10]) (by kernel_rfl) (by simp) (AllReadyH.cons (i := 8) rfl (fun K hK => ?_) (AllReadyH.cons (i := 10) rfl (fun K hK => ?_) AllReadyH.nil))
   ·rw [if_pos (by rfl)]
    refine wp_lookup_run8 _ _ _ 107 rfl _ _ rfl rfl (HLK.out v0 KK) ?_
    refine hK.out _ _ h0 (fun h0 => ?_)
    clear hK K
    try simp only [zz]
    refine rd 10 fun K hK => ?_
    go_simp
    refine hK.out _ _ (h0.alloc _) (fun h1 => ?_)
    clear hK K h1
    try simp only [zz]
    obtain ⟨v', W2, W3, hap, hup, hF3, hk2, hk3⟩ := HADD.out v HOW.out HCS.out (v0.alloc (.cells #[.int .i64 k] 3)) (KK.trans ((Kept.refl [] v0).alloc _) (by simp)) v0.heap.size (by rw [cell_of_row _ _ _ _ _ _ (heap_new v0 _)]; rfl)
    refine rd 11 fun K hK => ?_
    refine wp_append_run8 _ _ _ 155 rfl _ _ rfl rfl hap ?_
    refine hK.out _ _ ((h0.alloc _).trans hk2 (fun i hi _ => by simp [hi])) (fun h2 => ?_)
    clear hK K
    try simp only [zz]
    refine rd 12 fun K hK => ?_
    refine wp_mapUpdate_run8 _ _ _ _ 107 rfl _ _ _ rfl rfl rfl hup ?_
    refine hK.out _ _ (h2.tr hk3) (fun h3 => ?_)
    clear hK K
    try simp only [zz]
    refine qd ?_
    have hkT : Kept (M :: v.ownBlock.toList) wr W3 := ((HKV2.out.mono (l2 := M :: v.ownBlock.toList) (by simp)).trans h3 (fun i hi _ => hi))
    have HPF : Hid (Kept [] w W3 ∧ SigAt W3 G s (.slice (some ⟨b, off, none⟩) n cap) ∧ W3.heap[E]? = some (.cells (fdC 0 0 none 0 0 none).toArray 109 (0, 0)) ∧ FdAt W3 Fb s.width s.size (some ⟨b, off, none⟩) n cap M ∧ ∃ K V, Fm W3 w.heap.size M s.blocks (k + 1) K V) := by
     have nG : G ∉ M :: v.ownBlock.toList := by intro hm; simp only [List.mem_cons, Option.mem_toList] at hm; rcases hm with hm | hm; (have := HGM.out; omega); exact (HGV.out G hm).1 rfl
     have nE : E ∉ M :: v.ownBlock.toList := by intro hm; simp only [List.mem_cons, Option.mem_toList] at hm; rcases hm with hm | hm; (have := HGM.out; omega); exact (HGV.out E hm).2 rfl
     refine ⟨HO.out.1.trans hkT (fun i hi hl => ?_), HO.out.2.1.kept hkT nG, (hkT.block E (gs HO.out.2.2.1).1 nE).trans HO.out.2.2.1, HO.out.2.2.2.1.kept hkT HNF.out, hF3⟩
     simp only [List.mem_cons, Option.mem_toList] at hi
     rcases hi with hi | hi
     ·have := HGM.out; have := HG.out; omega
     ·have := (own_blk HOW.out hi).1; omega
    clear hF3 hk2 hk3 hap hup h0 h2 h3 k0 KK hkT HADD HKV2 HO HLK HOW HCS c3 cs
    go_wp2
    go_roundw
    case rel => exact ⟨k + 1, by omega, by go_num, HPF⟩
    case measure => simp [intOf]; omega
   ·rw [if_pos (by rfl)]
    go_simp
    refine hK.out _ _ (h0.alloc _) (fun h1 => ?_)
    clear hK K h1
    try simp only [zz]
    refine rd 8 fun K hK => ?_
    refine wp_lookup_run8 _ _ _ 107 rfl _ _ rfl rfl (HLK.out _ (KK.trans ((Kept.refl [] v0).alloc _) (by simp))) ?_
    refine hK.out _ _ (h0.alloc _) (fun h1 => ?_)
    clear hK K h1
    try simp only [zz]
    obtain ⟨v', W2, W3, hap, hup, hF3, hk2, hk3⟩ := HADD.out v HOW.out HCS.out (v0.alloc (.cells #[.int .i64 k] 3)) (KK.trans ((Kept.refl [] v0).alloc _) (by simp)) v0.heap.size (by rw [cell_of_row _ _ _ _ _ _ (heap_new v0 _)]; rfl)
    refine rd 11 fun K hK => ?_
    refine wp_append_run8 _ _ _ 155 rfl _ _ rfl rfl hap ?_
    refine hK.out _ _ ((h0.alloc _).trans hk2 (fun i hi _ => by simp [hi])) (fun h2 => ?_)
    clear hK K
    try simp only [zz]
    refine rd 12 fun K hK => ?_
    refine wp_mapUpdate_run8 _ _ _ _ 107 rfl _ _ _ rfl rfl rfl hup ?_
    refine hK.out _ _ (h2.tr hk3) (fun h3 => ?_)
    clear hK K
    try simp only [zz]
    refine qd ?_
    have hkT : Kept (M :: v.ownBlock.toList) wr W3 := ((HKV2.out.mono (l2 := M :: v.ownBlock.toList) (by simp)).trans h3 (fun i hi _ => hi))
    have HPF : Hid (Kept [] w W3 ∧ SigAt W3 G s (.slice (some ⟨b, off, none⟩) n cap) ∧ W3.heap[E]? = some (.cells (fdC 0 0 none 0 0 none).toArray 109 (0, 0)) ∧ FdAt W3 Fb s.width s.size (some ⟨b, off, none⟩) n cap M ∧ ∃ K V, Fm W3 w.heap.size M s.blocks (k + 1) K V) := by
     have nG : G ∉ M :: v.ownBlock.toList := by intro hm; simp only [List.mem_cons, Option.mem_toList] at hm; rcases hm with hm | hm; (have := HGM.out; omega); exact (HGV.out G hm).1 rfl
     have nE : E ∉ M :: v.ownBlock.toList := by intro hm; simp only [List.mem_cons, Option.mem_toList] at hm; rcases hm with hm | hm; (have := HGM.out; omega); exact (HGV.out E hm).2 rfl
     refine ⟨HO.out.1.trans hkT (fun i hi hl => ?_), HO.out.2.1.kept hkT nG, (hkT.block E (gs HO.out.2.2.1).1 nE).trans HO.out.2.2.1, HO.out.2.2.2.1.kept hkT HNF.out, hF3⟩
     simp only [List.mem_cons, Option.mem_toList] at hi
     rcases hi with hi | hi
     ·have := HGM.out; have := HG.out; omega
     ·have := (own_blk HOW.out hi).1; omega
    clear hF3 hk2 hk3 hap hup h0 h2 h3 k0 KK hkT HADD HKV2 HO HLK HOW HCS c3 cs
    go_wp2
    go_roundw
    case rel => exact ⟨k + 1, by omega, by go_num, HPF⟩
    case measure => simp [intOf]; omega
  ·obtain rfl : k = n := by omega
   obtain ⟨hkw, hA, hE, hF, K0, V0, hFm⟩ := HP.out
   clear HP
   have hrg := hF.range
   have hkE := kept_row wr E (fdC s.width s.size ao k cap (some M)).toArray
   have HEN := hide (ai (hkw.trans hkE (fun i hi hl => by simp only [List.mem_singleton] at hi; have := HG.out; omega)) hFm)
   clear hkw hA hF hFm
   go_wp2_with (first
    | refine wpList_load_mid rfl 109 (.tmp 3) rfl Fb 0 rfl (fdC s.width s.size ao k cap (some M)) _ hrg Tryz.underlying109 rfl Tryz.infoFd ?_
    | refine wpList_store_rowTo rfl 109 (.tmp 2) (.tmp 35) rfl rfl E (fdC s.width s.size ao k cap (some M)).toArray rfl rfl 109 (fdC 0 0 none 0 0 none).toArray hE (Tryz.infoFdA _ _ _ _ _ _) rfl (fd_all _ _ _ _ _ _) ?_)
   have hFE : Fm (wr.setRow E (fdC s.width s.size ao k cap (some M)).toArray) w.heap.size M s.blocks k K0 V0 := HEN.out.2.apartE hkE hE
   exact ret_row rfl rfl E 109 (fdC s.width s.size ao k cap (some M)).toArray (0, 0) _ rfl (setRow_heap _ _ _ _ _ _ hE) Tryz.underlying109 rfl Tryz.infoFd ⟨M, rfl, ⟨K0, V0, hFE⟩, HEN.out.1⟩
end

section
open Dlt
theorem Tryz.aggByte (W : World) : (isAgg 5).run Tryz.prog W = .ok false W := by kernel_rfl
theorem Tryz.aggInt (W : World) : (isAgg 3).run Tryz.prog W = .ok false W := by kernel_rfl
theorem Tryz.aggID (W : World) : (isAgg 23).run Tryz.prog W = .ok true W := by kernel_rfl
theorem Tryz.sizeID (W : World) : (sizeOf 23).run Tryz.prog W = .ok 32 W := by kernel_rfl
theorem Tryz.cellsByte : Tryz.prog.cellsOf 5 = 1 := by kernel_rfl
theorem Tryz.partByte (L : List UInt8) (i : Nat) (hi : i < L.length) (W : World) : (part 5 (bys L).toArray i).run Tryz.prog W = .ok (.int .u8 (L.getD i 0).toNat) W := by
 simp only [part, Sem.run_bind, Tryz.aggByte, Result.andThen_ok, Bool.false_eq_true, if_false, List.getElem?_toArray, bys_at hi, Sem.run_pure]
theorem eqItems_bytes (d : Nat) (A B : List UInt8) (hA : A.length = 32) (hB : B.length = 32) (W : World) : ∀ (is : List Nat), (∀ i ∈ is, i < 32) →
  (Op.eqItems (d + 1) 5 1 (bys A).toArray (bys B).toArray is).run Tryz.prog W = .ok (is.all fun i => A.getD i 0 == B.getD i 0) W
 | [], _ => by simp [Op.eqItems]
 | i :: is, h => by
  have hi := h i (by simp)
  have ih := eqItems_bytes d A B hA hB W is (fun j hj => h j (by simp [hj]))
  have e : (((A.getD i 0).toNat : Int) == ((B.getD i 0).toNat : Int)) = (A.getD i 0 == B.getD i 0) := by
   rw [Bool.eq_iff_iff]
   simp only [beq_iff_eq]
   constructor
   ·intro h
    exact UInt8.toNat_inj.1 (by omega)
   ·intro h
    rw [h]
  simp only [Op.eqItems, Sem.run_bind, Nat.mul_one, Tryz.partByte A i (by omega), Tryz.partByte B i (by omega), Result.andThen_ok, run_equalIn_int _ d 5 .u8 .u8 _ _ Tryz.underlying5, e]
  cases hab : (A.getD i 0 == B.getD i 0)
  ·simp only [Bool.not_false, if_true, Sem.run_pure, List.all_cons, hab, Bool.false_and]
  ·simp only [Bool.not_true, Bool.false_eq_true, if_false, List.all_cons, hab, Bool.true_and]
   exact ih
theorem all_eq {A B : List UInt8} (hA : A.length = 32) (hB : B.length = 32) : ((List.range 32).all fun i => A.getD i 0 == B.getD i 0) = decide (A = B) := by
 rw [Bool.eq_iff_iff]
 simp only [List.all_eq_true, List.mem_range, beq_iff_eq, decide_eq_true_eq]
 constructor
 ·intro h
  apply List.ext_getElem (by omega)
  intro i h1 h2
  have := h i (by omega)
  simpa [List.getElem?_eq_getElem h1, List.getElem?_eq_getElem h2] using this
 ·intro h i _
  rw [h]
theorem Tryz.equalID (d : Nat) (A B : List UInt8) (hA : A.length = 32) (hB : B.length = 32) (W : World) :
  (Op.equalIn (d + 2) 23 (.agg (bys A).toArray) (.agg (bys B).toArray)).run Tryz.prog W = .ok (decide (A = B)) W := by
 obtain ⟨i0, hi, _⟩ := info_parts Tryz.infoByte
 rw [run_equalIn_array (P := Tryz.prog) W (d + 1) (bys A).toArray (bys B).toArray Tryz.underlying23 hi, Tryz.cellsByte, eqItems_bytes d A B hA hB W _ (fun i hi => List.mem_range.1 hi), all_eq hA hB]
theorem Tryz.eqlID (A B : List UInt8) (hA : A.length = 32) (hB : B.length = 32) (W : World) : (Op.equalIn 10000 23 (.agg (bys A).toArray) (.agg (bys B).toArray)).run Tryz.prog W = .ok (decide (A = B)) W :=
 Tryz.equalID 9998 A B hA hB W
theorem wk_part (e : Wk) : e.cells.toArray.extract 1 (1 + 32) = (bys e.id).toArray := by
 apply Array.ext'
 simp only [Wk.cells, Array.toList_extract, List.extract_eq_drop_take']
 show List.take 32 (bys e.id) = bys e.id
 exact List.take_of_length_le (by rw [bys_length, e.hid]; exact Nat.le_refl _)
theorem Tryz.partSum (e : Wk) (W : World) : (part 3 e.cells.toArray 0).run Tryz.prog W = .ok (.int .i64 e.sum) W := by
 simp only [part, Sem.run_bind, Tryz.aggInt, Result.andThen_ok, Bool.false_eq_true, if_false, List.getElem?_toArray, e.su, Sem.run_pure]
theorem Tryz.partWid (e : Wk) (W : World) : (part 23 e.cells.toArray 1).run Tryz.prog W = .ok (.agg (bys e.id).toArray) W := by
 have hx := wk_part e
 simp only [part, Sem.run_bind, Tryz.aggID, Result.andThen_ok, if_true, Tryz.sizeID, Sem.run_pure]
 first | rw [hx] | (simp [e.len, hx])
def wkEq (a b : Wk) : Bool := decide (a.sum = b.sum) && decide (a.id = b.id)
theorem wkEq_iff {a b : Wk} : wkEq a b = true ↔ a = b := by
 simp only [wkEq, Bool.and_eq_true, decide_eq_true_eq]
 exact ⟨fun h => Wk.ext' h.1 h.2, fun h => by rw [h]; exact ⟨rfl, rfl⟩⟩
theorem Tryz.underWeak : Tryz.prog.underlying 62 = some (.struct (Tryz.prog.fieldsOf 62)) := by kernel_rfl
theorem Tryz.eqlWk (A B : Wk) (W : World) : (Op.equalIn 10000 62 (.agg A.cells.toArray) (.agg B.cells.toArray)).run Tryz.prog W = .ok (wkEq A B) W := by
 rw [run_equalIn_struct (P := Tryz.prog) W 9999 62 _ _ Tryz.underWeak (by kernel_rfl)]
 simp (config := { decide := true }) only [Program.fieldsOf, Tryz.underlying62, Op.eqFields, Sem.run_bind, Sem.run_ite, ne_eq, not_false_eq_true, if_true, Tryz.partSum, Tryz.partWid, Result.andThen_ok, run_equalIn_int W 9998 3 .i64 .i64 _ _ Tryz.underlying3, Tryz.equalID 9997 A.id B.id A.hid B.hid]
 have e2 : (A.sum == B.sum) = decide (A.sum = B.sum) := by rw [Bool.eq_iff_iff]; simp
 rw [e2]
 unfold wkEq
 cases decide (A.sum = B.sum) <;> cases decide (A.id = B.id) <;> simp
def leastV (o : Option Nat) : Value := .tuple #[.int .i64 (o.getD 0 : Nat), .bool o.isSome]
theorem find_no {l : List Nat} {p : Nat -> Bool} {k : Nat} (hk : k < l.length) (h : (l.take k).find? p = none) (hz : p (l.getD k 0) = false) : (l.take (k + 1)).find? p = none := by
 rw [List.take_succ_eq_append_getElem hk, List.find?_append, h]
 have e : l[k] = l.getD k 0 := by simp [List.getElem?_eq_getElem hk]
 rw [e, List.find?_cons, hz]
 rfl
theorem find_yes {l : List Nat} {p : Nat -> Bool} {k : Nat} (hk : k < l.length) (h : (l.take k).find? p = none) (hz : p (l.getD k 0) = true) : l.find? p = some (l.getD k 0) := by
 have e : l[k] = l.getD k 0 := by simp [List.getElem?_eq_getElem hk]
 conv => lhs; rw [<-List.take_append_drop k l]
 rw [List.find?_append, h, List.drop_eq_getElem_cons hk, List.find?_cons, e, hz]
 rfl
theorem least_ok (wd : Int) (sz : Int) (ao : Option Addr) (n cap M : Nat) (L : List Wk) (x : Int) (wo : Option Addr) (wn wc : Nat) (ws : List UInt8) (w : World) (base : Nat) (K : List Int) (V : List Value) (hL : L.length = n) (hn : n <= 1000000) (hW : Wks w ao L) (hm : Fm w base M L n K V) (hwn : ws.length = wn) (hwc : wn <= wc) (hws : Sl w wo ws) (hwm : wn <= 4611686018427387904) (hcap : n <= cap) :
  Calls Tryz.prog 101 #[.agg (fdC wd sz ao n cap (some M)).toArray, .slice wo wn wc, .int .i64 x] w fun e w' => e = .returned (leastV (leastI L x (Sha.ident wd ws))) ∧ Kept [] w w' := by
 have hF := FdAt.new w wd sz ao n cap M
 have k1 := ka w (.cells (fdC wd sz ao n cap (some M)).toArray 109)
 have HLE : Hid (leastI L x (Sha.ident wd ws) = (idxs L x n).find? fun i => (L.getD i wk0).id == Sha.ident wd ws) := by show _ = _; rw [leastI_idxs, hL]
 obtain ⟨v, hlook, hown, _⟩ := hm.look x
 have hll := hlook _ k1
 obtain ⟨vo, vc, rfl, hvc⟩ := own_shape hown
 have hil := idxs_len L x n
 have HMEM : Hid (∀ i, i ∈ idxs L x n -> i < n) := fun i hi => (idxs_mem hi).1
 have hcells : ∀ i, i < (idxs L x n).length -> ∃ g off, vo = some ⟨g, off, none⟩ ∧ w.cell? ⟨g, off + i, none⟩ = some (.int .i64 ((idxs L x n).getD i 0 : Nat)) := fun i hi => by
  rcases hown.2 with ⟨e, h0⟩ | ⟨g, cp, cur, e, _, hg, _, _, _, ht⟩
  ·omega
  ·cases e
   refine ⟨g, 0, rfl, ?_⟩
   rw [Nat.zero_add, cell_of_row _ _ _ _ _ _ hg]
   have h1 : (ivs (idxs L x n))[i]? = some (.int .i64 ((idxs L x n).getD i 0 : Nat)) := by
    simp [ivs, List.getElem?_eq_getElem hi]
   rw [<-ht, List.getElem?_take] at h1
   split at h1
   ·simpa using h1
   ·cases h1
 have HCL := hide hcells
 have c0 := hF.c (j := 0) (u := .int .i64 wd) rfl
 have c3 := hF.c (j := 3) (u := .map (some M)) rfl
 have HF := hide hF
 have HWK := hide (ai hL (ai (hW.kept k1 (by simp)) (ai hn hcap)))
 have HWS := hide (ai hwn (ai hwc (ai (hws.kept k1 (by simp)) hwm)))
 have HK1 := hide k1
 generalize idxs L x n = I at hll hil HMEM HCL HLE
 clear hlook hown hcells hm hF k1 hL hW hwn hwc hws hwm hcap
 obtain ⟨G, hG⟩ := nm (w.heap.size)
 rw [hG] at c0 c3 HF
 obtain ⟨m, hmm⟩ := nm (I.length)
 rw [hmm] at hll hil
 have HM := hide hmm
 clear hmm
 go_enter Tryz.func101, Tryz.ntmps101
 go_upto_region 1 with (fail)
 have HG := hide hG
 clear hG
 generalize w.alloc (.cells (fdC wd sz ao n cap (some M)).toArray 109) = w1 at *
 by_cases h0 : m = 0
 ·subst h0
  have HN : Hid (leastI L x (Sha.ident wd ws) = none) := by
   show _ = _
   rw [HLE.out, List.eq_nil_of_length_eq_zero HM.out]; rfl
  go_wp2
  go_ret2
  exact ⟨by rw [HN.out]; rfl, HK1.out⟩
 ·have hm0 : ((m : Int) == 0) = false := by simp; omega
  have hof := of_one wd wo wn wc ws w1 HWS.out.1 HWS.out.2.1 HWS.out.2.2.1 HWS.out.2.2.2
  have hidl := Sha.ident_len wd ws
  obtain ⟨id, hid⟩ := nm (Sha.ident wd ws)
  rw [hid] at hof hidl
  have HID := hide hid
  clear hid
  have hiA : (Tryz.prog.info? 23).map (·.size) = some (bys id).toArray.size := by rw [List.size_toArray]; exact idlen hidl
  have hzs : zero32.size = (bys id).toArray.size := by show 32 = _; rw [List.size_toArray, bys_length, hidl]
  have hal := bys_all id
  have hz := Tryz.zeroID
  go_upto_region 5 with (first
   | (go_at_call 45; refine hof.mono ?_; rintro r w2 ⟨rfl, hk2⟩; have H2 := hide hk2; have hnw := heap_new w2 (.cells zero32 23); clear hof hk2)
   | refine wpList_store_rowTo rfl 23 (.tmp 9) (.tmp 23) rfl rfl w2.heap.size (bys id).toArray rfl rfl 23 zero32 hnw hiA hzs hal ?_)
  have hr3 := setRow_heap _ _ _ (bys id).toArray _ _ hnw
  have k3 : Kept [] w2 ((w2.alloc (.cells zero32 23)).setRow w2.heap.size (bys id).toArray) := ((Kept.refl [] w2).alloc _).tr (kept_row _ _ _)
  obtain ⟨Ib, hIb⟩ := nm (w2.heap.size)
  rw [hIb] at hr3 k3 ⊢
  clear hIb hnw
  generalize (w2.alloc (.cells zero32 23)).setRow Ib (bys id).toArray = w3 at hr3 k3 ⊢
  have HK13 := hide (H2.out.tr k3)
  have HI3 := hide hr3
  clear hr3 k3 H2 c0 c3 hll hm0 hz hiA hzs hal
  go_wp2
  go_loopw [26] (fun y wr => ∃ k : Nat, k <= m ∧ y = .int .i64 k ∧ Hid ((I.take k).find? (fun i => (L.getD i wk0).id == id) = none) ∧ Hid (Kept [] w3 wr)) (fun y wr => m - (intOf y).toNat)
  case atStart => exact ⟨0, Nat.zero_le _, rfl, rfl, Kept.refl _ _⟩
  case round =>
   obtain ⟨k, hk, rfl, HFN, HKR⟩ := hrel
   by_cases hlt : k < m
   ·obtain ⟨g, off, rfl, hcg⟩ := HCL.out k (by rw [HM.out]; exact hlt)
    have kw : Kept [] w wr := (HK1.out.tr HK13.out).tr HKR.out
    have hcg' := kw.cellOf hcg (by simp)
    have hin : I.getD k 0 ∈ I := by
     have hkl : k < I.length := by rw [HM.out]; exact hlt
     simp only [List.getD_eq_getElem?_getD, List.getElem?_eq_getElem hkl, Option.getD_some]
     exact List.getElem_mem _
    have hq := HMEM.out _ hin
    have HY : Hid (((L.getD (I.getD k 0) wk0).id == id) = true -> leastI L x (Sha.ident wd ws) = some (I.getD k 0)) := fun h => by rw [HLE.out, HID.out]; exact find_yes (by rw [HM.out]; exact hlt) HFN.out h
    have HZ : Hid (((L.getD (I.getD k 0) wk0).id == id) = false -> (I.take (k + 1)).find? (fun i => (L.getD i wk0).id == id) = none) := fun h => find_no (by rw [HM.out]; exact hlt) HFN.out h
    generalize I.getD k 0 = q at hcg' hq HY HZ
    obtain ⟨b, of2, hab, hrg⟩ := (HWK.out.2.1.kept (HK13.out.tr HKR.out) (by simp)) q (by rw [HWK.out.1]; exact hq)
    subst hab
    generalize L.getD q wk0 = e at hrg HY HZ
    have hri := wk_range hrg
    have hile := idlen e.hid
    have hili := idlen hidl
    have hrI : wr.rangeAt Ib 0 (bys id) := fun j u hu => HKR.out.cellOf (row_rangeK HI3.out j u hu) (by simp)
    have hF := (HF.out.kept (HK13.out.tr HKR.out) (by simp))
    have c2 := hF.c (j := 2) (u := .slice (some ⟨b, of2, none⟩) n cap) rfl
    have hqn : q < 1000000 := by have := HWK.out.2.2.1; omega
    have heq : ∀ W, (Op.equalIn 10000 23 (.agg (bys e.id).toArray) (.agg (bys id).toArray)).run Tryz.prog W = .ok (e.id == id) W := fun W => by
     rw [Tryz.eqlID e.id id e.hid hidl W]
     congr 1
     rw [Bool.eq_iff_iff]; simp
    generalize (e.id == id) = ok at heq HY HZ
    clear hcg hin hF hrg
    go_upto_region 8 with (fail)
    refine th wr fun h0 => ?_
    generalize World.drew wr = v0 at h0  ⊢
    refine t1 0 (.pointer (some ⟨G, 2, none⟩)) h0 ?_
    simp only [zz]
    refine t2 1 (.slice (some ⟨b, of2, none⟩) n cap) rfl h0 ?_ (fun w h => by have c := qc h c2; go_simp)
    simp only [zz]
    refine t1 2 (.int .i64 q) h0 ?_
    simp only [zz]
    refine t1 3 (.pointer (some ⟨b, of2 + q * 33, none⟩)) h0 ?_
    simp only [zz]
    refine t1 4 (.pointer (some ⟨b, of2 + q * 33 + 1, none⟩)) h0 ?_
    simp only [zz]
    refine t4 5 (.agg (bys e.id).toArray) rfl (yieldsIf_load_mid (by rfl) _ _ rfl b (of2 + q * 33 + 1) rfl (bys e.id) _ (fun W h j u hu => Kept.cellOf h (hri j u hu) (by simp)) Tryz.underlying23 rfl hile) h0 ?_
    simp only [zz]
    refine t4 6 (.agg (bys id).toArray) rfl (yieldsIf_load_mid (by rfl) _ _ rfl Ib 0 rfl (bys id) _ (fun W h j u hu => Kept.cellOf h (hrI j u hu) (by simp)) Tryz.underlying23 rfl hili) h0 ?_
    simp only [zz]
    refine t1 7 (.bool ok) h0 ?_
    simp only [zz]
    refine qd ?_
    have h0' := h0
    clear h0
    have HKF := hide (HKR.out.trans h0' (by simp))
    clear h0' hcg' c2 hri hrI
    cases ok with
    | true =>
     have HYY : Hid (leastI L x (Sha.ident wd ws) = some q) := HY.out rfl
     clear HY HZ
     go_wp2
     go_ret2
     exact ⟨by rw [HYY.out]; rfl, (HK1.out.tr HK13.out).tr HKF.out⟩
    | false =>
     have HZZ := hide (HZ.out rfl)
     clear HY HZ
     go_wp2
     go_roundw
     case rel => exact ⟨k + 1, by omega, by go_num, HZZ, HKF⟩
     case measure => simp [intOf]; omega
   ·obtain rfl : k = m := by omega
    have HN : Hid (leastI L x (Sha.ident wd ws) = none) := by
     have h := HFN.out
     rw [List.take_of_length_le (by rw [HM.out]; exact Nat.le_refl _)] at h
     show _ = _
     rw [HLE.out, HID.out, h]
    clear HFN
    go_wp2
    go_ret2
    exact ⟨by rw [HN.out]; rfl, (HK1.out.tr HK13.out).tr HKR.out⟩
end

section
open Dlt
theorem cut_from8 (ao : Option Addr) (L cap m : Nat) (hm : m <= L) (hc : L <= cap) : ∃ ao' : Option Addr, (∀ W, (Instr.slice 27 (.slice ao L cap) (some (.int .i64 m)) none none).run Tryz.prog W = .ok (.slice ao' (L - m) (cap - m)) W) ∧ ∀ (w : World) (xs : List UInt8), xs.length = L -> Sl w ao xs -> Sl w ao' (xs.drop m) := by
 have hz : ∀ W, (sizeOf (Tryz.prog.elem 27)).run Tryz.prog W = .ok 1 W := fun W => by kernel_rfl
 have h := fun W => run_slice_l (P := Tryz.prog) W 27 ao L cap (by kernel_rfl) .i64 m (by omega) (by omega)
 cases ao with
 | none =>
  refine ⟨none, fun W => ?_, fun w xs hx hs => ?_⟩
  ·rw [h W, hz]
   simp [sliced]
  ·have : xs = [] := by
    by_cases h0 : xs = []
    ·exact h0
    ·obtain ⟨_, _, e, _⟩ := hs.open h0
     cases e
   subst this
   simpa using Sl.nil w none
 | some a =>
  refine ⟨if cap = m then some a else some (a.add m), fun W => ?_, fun w xs hx hs => ?_⟩
  ·rw [h W, hz]
   by_cases hcm : cap = m <;> simp [sliced, hcm]
  ·by_cases h0 : xs.drop m = []
   ·rw [h0]; exact Sl.nil _ _
   ·have hx0 : xs ≠ [] := by rintro rfl; simp at h0
    obtain ⟨g, off, e, _, _⟩ := hs.open hx0
    cases e
    have := hs.drop m cap (by omega) (by omega)
    rw [Addr.add_mid]
    exact this
theorem cut_weak (ao : Option Addr) (L cap m : Nat) (hm : m <= L) (hc : L <= cap) : ∃ ao' : Option Addr, (∀ W, (Instr.slice 24 (.slice ao L cap) (some (.int .i64 m)) none none).run Tryz.prog W = .ok (.slice ao' (L - m) (cap - m)) W) ∧ ∀ (w : World) (xs : List Wk), xs.length = L -> Wks w ao xs -> Wks w ao' (xs.drop m) := by
 have hz : ∀ W, (sizeOf (Tryz.prog.elem 24)).run Tryz.prog W = .ok 33 W := fun W => by kernel_rfl
 have h := fun W => run_slice_l (P := Tryz.prog) W 24 ao L cap (by kernel_rfl) .i64 m (by omega) (by omega)
 cases ao with
 | none =>
  refine ⟨none, fun W => ?_, fun w xs hx hs => ?_⟩
  ·rw [h W, hz]
   simp [sliced]
  ·have : xs = [] := by
    by_cases h0 : xs = []
    ·exact h0
    ·obtain ⟨_, _, e, _⟩ := hs.open h0
     cases e
   subst this
   simpa using Wks.nil w none
 | some a =>
  refine ⟨if cap = m then some a else some (a.add (m * 33)), fun W => ?_, fun w xs hx hs => ?_⟩
  ·rw [h W, hz]
   by_cases hcm : cap = m <;> simp [sliced, hcm]
  ·by_cases h0 : xs.drop m = []
   ·rw [h0]; exact Wks.nil _ _
   ·have hml : m < xs.length := by
     apply Classical.byContradiction
     intro hh
     exact h0 (List.drop_of_length_le (by omega))
    have hx0 : xs ≠ [] := by rintro rfl; simp at h0
    obtain ⟨g, off, e, _, _⟩ := hs.open hx0
    cases e
    have := hs.drop m
    rw [if_neg (by omega), Addr.add_mid]
    exact this
namespace Dlt
def cntW (w : Int) (z : Nat) : List Wk -> List UInt8 -> Nat
 | [], _ => 0
 | b :: L, ys => if ys.length < z then 0 else if wkEq (weak w (ys.take z)) b then cntW w z L (ys.drop z) + 1 else 0
theorem cntW_le (w : Int) (z : Nat) : ∀ (L : List Wk) (ys : List UInt8), cntW w z L ys <= L.length ∧ cntW w z L ys * z <= ys.length
 | [], ys => by simp [cntW]
 | b :: L, ys => by
  unfold cntW
  split
  ·simp
  ·split
   ·have := cntW_le w z L (ys.drop z)
    rw [List.length_drop] at this
    rw [List.length_cons, Nat.add_mul, Nat.one_mul]
    omega
   ·simp
end Dlt
theorem count_ok (wd : Int) (Z : Nat) (ao : Option Addr) (n cap M : Nat) (L : List Wk) (ro : Option Addr) (rn rc : Nat) (ys : List UInt8) (f : Nat) (w : World) (hL : L.length = n) (hn : n <= 1000000) (hcap : n <= cap) (hW : Wks w ao L) (hyl : ys.length = rn) (hyc : rn <= rc) (hys : Sl w ro ys) (hym : rn <= 1000000) (hf : f <= n) (hZ1 : 1 <= Z) (hZ2 : Z <= 4096) :
  Calls Tryz.prog 69 #[.agg (fdC wd Z ao n cap (some M)).toArray, .slice ro rn rc, .int .i64 f] w fun e w' => e = .returned (.int .i64 (cntW wd Z (L.drop f) ys : Nat)) ∧ Kept [] w w' := by
 have hF := FdAt.new w wd Z ao n cap M
 have k1 := ka w (.cells (fdC wd Z ao n cap (some M)).toArray 109)
 obtain ⟨co, hcut, hcw⟩ := cut_weak ao n cap f hf hcap
 have HWD := hide (hcw _ L hL hW)
 have c2 := hF.c (j := 2) (u := .slice ao n cap) rfl
 have hzk := Tryz.zeroWeak
 have HF := hide hF
 have HK1 := hide k1
 have HYS := hide (ai hyl (ai hyc hys))
 obtain ⟨m, hm⟩ := nm (n - f)
 rw [hm] at hcut
 have HDL : Hid ((L.drop f).length = m) := by show _ = _; rw [List.length_drop, hL, hm]
 have hmn : m <= 1000000 := by omega
 generalize L.drop f = D at HWD HDL
 clear hF hcw hW hL hyl hyc hys k1 hm
 obtain ⟨G, hG⟩ := nm (w.heap.size)
 rw [hG] at c2 HF
 go_enter Tryz.func69, Tryz.ntmps69
 go_upto_region 1 with (fail)
 have HG := hide hG
 clear hG
 generalize w.alloc (.cells (fdC wd Z ao n cap (some M)).toArray 109) = w1 at *
 go_wp2
 go_loopw [1, 7, 15] (fun x y z wr => ∃ (k : Nat) (po : Option Addr) (pn pc : Nat) (zs : List UInt8), k <= m ∧ x = .slice po pn pc ∧ y = .int .i64 k ∧ z = .int .i64 k ∧ pn <= 1000000 ∧ Hid (zs.length = pn ∧ pn <= pc ∧ Sl wr po zs ∧ cntW wd Z D ys = k + cntW wd Z (D.drop k) zs ∧ Kept [] w1 wr)) (fun x y z wr => m - (intOf z).toNat)
 case atStart => exact ⟨0, ro, rn, rc, ys, Nat.zero_le _, rfl, rfl, rfl, hym, HYS.out.1, HYS.out.2.1, HYS.out.2.2.kept HK1.out (by simp), by simp, Kept.refl _ _⟩
 case round =>
  obtain ⟨k, po, pn, pc, zs, hk, rfl, rfl, rfl, hpn, HP⟩ := hrel
  by_cases hlt : k < m
  ·have hkl : k < D.length := by rw [HDL.out]; exact hlt
   obtain ⟨b, off, hco, hrg⟩ := (HWD.out.kept (HK1.out.tr HP.out.2.2.2.2) (by simp)) k hkl
   subst hco
   have HDD : Hid (D.drop k = D.getD k wk0 :: D.drop (k + 1)) := by
    show _ = _
    rw [List.drop_eq_getElem_cons hkl]
    congr 1
    simp [List.getElem?_eq_getElem hkl]
   generalize D.getD k wk0 = e at hrg HDD
   have hnz := heap_new wr (.cells zeroK 62)
   have hil := Tryz.infoWk e
   have hia := Tryz.infoWkA e
   have hzs := zeroK_size e
   have hal := wk_all e
   have hkv := withWk_kept wr e
   have hrw := row_rangeK (withWk_row wr e)
   go_upto_region 5 with (first | refine wpList_load_mid rfl 62 (.tmp 17) rfl b (off + k * 33) rfl e.cells _ hrg Tryz.underlying62 rfl hil ?_ | refine wpList_store_rowTo rfl 62 (.tmp 9) (.tmp 18) rfl rfl wr.heap.size e.cells.toArray rfl rfl 62 zeroK hnz hia hzs hal ?_)
   have hW : (wr.alloc (.cells zeroK 62)).setRow wr.heap.size e.cells.toArray = withWk wr e := rfl
   rw [hW]
   obtain ⟨V5, hV5⟩ := nm (wr.heap.size)
   rw [hV5] at hrw ⊢
   have HK5 := hide (HP.out.2.2.2.2.tr hkv)
   have HS5 := hide (HP.out.2.2.1.kept hkv (by simp))
   have hF5 := HF.out.kept HK5.out (by simp)
   have c0 := hF5.c (j := 0) (u := .int .i64 wd) rfl
   have c1 := hF5.c (j := 1) (u := .int .i64 Z) rfl
   clear hrg hia hzs hal hnz hW hkv hV5 hF5
   generalize withWk wr e = w5 at *
   by_cases hsh : pn < Z
   ·have hshz : (pn : Int) < (Z : Int) := by omega
    have HR : Hid (cntW wd Z D ys = k) := by
     show _ = _
     rw [HP.out.2.2.2.1, HDD.out]
     unfold cntW
     rw [HP.out.1, if_pos hsh, Nat.add_zero]
    clear HP
    refine th w5 fun h0 => ?_
    generalize World.drew w5 = v0 at h0  ⊢
    refine t1 0 (.slice po pn pc) h0 ?_
    simp only [zz]
    refine t1 1 (.int .i64 pn) h0 ?_
    simp only [zz]
    refine t1 2 (.pointer (some ⟨G, 1, none⟩)) h0 ?_
    simp only [zz]
    refine t2 3 (.int .i64 Z) rfl h0 ?_ (fun w h => by have c := qc h c1; go_simp)
    simp only [zz]
    refine t1 4 (.bool true) h0 ?_
    simp only [zz]
    refine t1 5 (.bool true) h0 ?_
    simp only [zz]
    refine t3 6 h0 ?_
    simp only [zz]
    refine t3 7 h0 ?_
    simp only [zz]
    refine t3 8 h0 ?_
    simp only [zz]
    refine t3 9 h0 ?_
    simp only [zz]
    refine t3 10 h0 ?_
    simp only [zz]
    refine t3 11 h0 ?_
    simp only [zz]
    refine t3 12 h0 ?_
    simp only [zz]
    refine t3 13 h0 ?_
    simp only [zz]
    refine t3 14 h0 ?_
    simp only [zz]
    refine t1 15 (.bool true) h0 ?_
    simp only [zz]
    refine qd ?_
    have HKF := hide (HK5.out.tr h0)
    clear h0 c0 c1 hrw
    go_wp2
    go_ret
    exact ⟨by rw [HR.out]; rfl, HK1.out.tr HKF.out⟩
   ·have hshz : ¬ (pn : Int) < (Z : Int) := by omega
    have hcut2 := fun W => Tryz.cutTo W po pn pc Z (by have := HP.out.2.1; omega)
    have hwo := fun W (h : Kept [] w5 W) => weakOf_ok wd po Z pc (zs.take Z) W (by rw [List.length_take, HP.out.1]; omega) (by have := HP.out.2.1; omega) ((HS5.out.kept h (by simp)).take Z) (by omega)
    have HRN : Hid (cntW wd Z D ys = k + (if wkEq (weak wd (zs.take Z)) e then cntW wd Z (D.drop (k + 1)) (zs.drop Z) + 1 else 0)) := by
     show _ = _
     rw [HP.out.2.2.2.1, HDD.out]
     conv => lhs; unfold cntW
     rw [HP.out.1, if_neg hsh]
    generalize weak wd (zs.take Z) = q at hwo HRN
    have heq := fun W => Tryz.eqlWk q e W
    have HWO := hide hwo
    clear hwo
    generalize wkEq q e = ok at heq HRN
    obtain ⟨po', hcf, hsd⟩ := cut_from8 po pn pc Z (by omega) HP.out.2.1
    have HSD := hide (fun W (h : Kept [] w5 W) => hsd W zs HP.out.1 (HS5.out.kept h (by simp)))
    clear hsd
    refine th w5 fun h0 => ?_
    generalize World.drew w5 = v0 at h0  ⊢
    refine t1 0 (.slice po pn pc) h0 ?_
    simp only [zz]
    refine t1 1 (.int .i64 pn) h0 ?_
    simp only [zz]
    refine t1 2 (.pointer (some ⟨G, 1, none⟩)) h0 ?_
    simp only [zz]
    refine t2 3 (.int .i64 Z) rfl h0 ?_ (fun w h => by have c := qc h c1; go_simp)
    simp only [zz]
    refine t1 4 (.bool false) h0 ?_
    simp only [zz]
    refine t1 5 (.bool false) h0 ?_
    simp only [zz]
    refine t1 6 (.pointer (some ⟨G, 0, none⟩)) h0 ?_
    simp only [zz]
    refine t2 7 (.int .i64 wd) rfl h0 ?_ (fun w h => by have c := qc h c0; go_simp)
    simp only [zz]
    refine t1 8 (.slice po pn pc) h0 ?_
    simp only [zz]
    refine t1 9 (.pointer (some ⟨G, 1, none⟩)) h0 ?_
    simp only [zz]
    refine t2 10 (.int .i64 Z) rfl h0 ?_ (fun w h => by have c := qc h c1; go_simp)
    simp only [zz]
    refine t2 11 (.slice po Z pc) rfl h0 ?_ (fun w hSw => by have c0 := hcut2 w; go_simp)
    simp only [zz]
    refine t4 13 (.agg e.cells.toArray) rfl (yieldsIf_load_mid (by rfl) _ _ rfl V5 0 rfl e.cells _ (fun W h j u hu => Kept.cellOf h (hrw j u hu) (by simp)) Tryz.underlying62 rfl hil) h0 ?_
    simp only [zz]
    refine rd 12 fun K hK => ?_
    go_simp
    refine (HWO.out v0 h0).mono ?_
    rintro e v1 ⟨rfl, hq⟩
    refine hK.out _ _ (h0.tr hq) (fun h1 => ?_)
    clear hK K
    try simp only [zz]
    clear hq h0
    refine t1 14 (.bool (!ok)) h1 ?_
    simp only [zz]
    refine t1 15 (.bool (!ok)) h1 ?_
    simp only [zz]
    refine qd ?_
    have HKF := hide (HK5.out.tr h1)
    have c1' := qc h1 c1
    have HSF := hide (HSD.out v1 h1)
    clear h1 c0 c1 hrw heq hcut2 HWO
    cases ok with
    | true =>
     have HR2 : Hid (cntW wd Z D ys = (k + 1) + cntW wd Z (D.drop (k + 1)) (zs.drop Z)) := by show _ = _; rw [HRN.out, if_pos rfl]; omega
     have HLN : Hid ((zs.drop Z).length = pn - Z ∧ pn - Z <= pc - Z) := ⟨by rw [List.length_drop, HP.out.1], by have := HP.out.2.1; omega⟩
     clear HRN HP
     go_wp2
     go_roundw
     case rel => exact ⟨k + 1, po', pn - Z, pc - Z, zs.drop Z, by omega, rfl, by go_num, by go_num, by omega, HLN.out.1, HLN.out.2, HSF.out, HR2.out, HKF.out⟩
     case measure => simp [intOf]; omega
    | false =>
     have HR2 : Hid (cntW wd Z D ys = k) := by show _ = _; rw [HRN.out, if_neg (by simp)]; omega
     clear HRN HP
     go_wp2
     go_ret
     exact ⟨by rw [HR2.out]; rfl, HK1.out.tr HKF.out⟩
  ·obtain rfl : k = m := by omega
   have HR : Hid (cntW wd Z D ys = k) := by
    show _ = _
    rw [HP.out.2.2.2.1, List.drop_of_length_le (by rw [HDL.out]; exact Nat.le_refl _)]
    rfl
   have HKF := hide HP.out.2.2.2.2
   clear HP
   go_wp2
   go_ret
   exact ⟨by rw [HR.out]; rfl, HK1.out.tr HKF.out⟩
end

end Go.Proofs.YtmklodligplbaabGreat
