import Derived.Test.YtmklodligplbaabGreatD8so
import Derived.RangeFuncNested
import Derived.RangeFuncBound
import Derived.RangeFuncCalls
import Derived.RangeFuncLeaves
import Derived.RangeFuncFrom
import Derived.Shelf.Abstract
import Derived.OwnWalkIn
import Derived.TacticsInMore
import Derived.LoopNIn
import Derived.LoopIn
open Go.RowKit
set_option linter.unusedVariables false
set_option linter.unusedSimpArgs false
set_option maxRecDepth 100000
set_option maxHeartbeats 0
namespace Go.Proofs.YtmklodligplbaabGreat
section
theorem opIn_round {P : Program} {l n : Nat} {o : Oper} {a : Act} {w : World} {K : Act -> World -> Prop} {Q : Exit -> Act -> World -> Prop} (hd : ∀ c, o.op ≠ .defer c) (h : o.wp P a w K Q) : o.wpIn (Fence.wide.inRound l) n P a w K Q := by
 unfold Oper.wp at h
 refine ⟨fun _ _ => trivial, ?_⟩
 rw [Oper.semAt_plain _ _ _ hd]
 generalize (execOp a.eval o).run P w = r at h
 cases r with
 | ok x w' =>
  cases x <;> simp only [Oper.upon, Oper.uponIn] at h ⊢ <;>
   first
    | exact h
    | exact h.elim
    | exact ⟨(fun e => by cases e), CallsIn.inRound l (callsIn_wide.2 h)⟩
    | exact ⟨(fun e => by cases e), (fun c cs _ => (h c cs).elim fun v hh => hh.elim fun w' hh => ⟨v, w', hh.1, stepsIn_wide.2 hh.2⟩)⟩
 | halt x w' => cases x <;> simp only [Oper.upon, Oper.uponIn] at h ⊢ <;> first | exact h | exact h.elim
theorem regionIn_round {P : Program} {l n id : Nat} {ops : Array Oper} {a : Act} {w : World} {Q : Exit -> Act -> World -> Prop} (hm : P.follows .mixedOrders = true) (hQ : ∀ a w, ¬ Q .outgrown a w) (hd : ∀ (i : Nat) (o : Oper) (c : Call), ops[i]? = some o -> o.op ≠ .defer c)
  (h : wpAny P .any ops Q ops.size (Array.replicate ops.size false) a w.drew) : (Code.region id ops true).wpIn (Fence.wide.inRound l) n P Q a w := by
 have go : ∀ (fuel : Nat) (listed : Array Bool) (a : Act) (w : World), wpAny P .any ops Q fuel listed a w -> wpAnyIn (Fence.wide.inRound l) n P .any ops Q fuel listed a w := by
  intro fuel
  induction fuel with
  | zero => intro listed a w h; exact h
  | succ fuel ih =>
   intro listed a w h
   refine ⟨h.1, fun i hi => ?_⟩
   have h1 := h.2 i hi
   unfold wpOp at h1
   unfold wpOpIn
   cases ho : ops[i]? with
   | none => rw [ho] at h1; exact ih _ _ _ h1
   | some o =>
    rw [ho] at h1
    simp only at h1 ⊢
    by_cases hw : Region.wanted o (yielded ops a.tmps) = true
    ·rw [if_pos hw] at h1 ⊢
     rcases h1 with h1 | ⟨_, a0, w0, h1⟩
     ·exact Oper.wpIn_mono (fun a w h => ih _ _ _ h) (opIn_round (fun c => hd i o c ho) h1)
     ·exact absurd h1 (hQ a0 w0)
    ·rw [if_neg hw] at h1 ⊢
     exact ⟨fun _ _ => trivial, ih _ _ _ h1⟩
 exact wpIn_region_any hm (go _ _ _ _ h)
def Oth (A C : World) : Prop := ∀ (i : Nat) (o : Obj), A.heap[i]? = some o -> o.isCells = false -> C.heap[i]? = some o
def Cel (A C : World) : Prop := A.heap.size <= C.heap.size ∧ ∀ (i : Nat) (o : Obj), A.heap[i]? = some o -> o.isCells = true -> C.heap[i]? = some o
theorem Cel.trans {A B C : World} (h : Cel A B) (k : Cel B C) : Cel A C := ⟨Nat.le_trans h.1 k.1, fun i o ho hc => k.2 i o (h.2 i o ho hc) hc⟩
theorem Cel.put {W : World} {l : Nat} {o : Obj} (o' : Obj) (h : W.heap[l]? = some o) (ho : o.isCells = false) : Cel W (W.putObj l o') := by
 refine ⟨by simp, fun i p hp hc => ?_⟩
 have hi : i ≠ l := by rintro rfl; rw [h] at hp; cases hp; rw [ho] at hc; cases hc
 rw [World.putObj_heap_other (by omega)]
 exact hp
theorem Kept.cel {A C : World} (h : Kept [] A C) : Cel A C := ⟨h.size, fun i o ho _ => (h.block i (gs ho).1 (by simp)).trans ho⟩
theorem Kept.oth {A C : World} (h : Kept [] A C) : Oth A C := fun i o ho _ => (h.block i (gs ho).1 (by simp)).trans ho
theorem below_put {B : Nat} {W : World} {l : Nat} (o : Obj) (h : B <= l) : Below B W (W.putObj l o) := ⟨rfl, rfl, rfl, by simp, fun k hk => World.putObj_heap_other (by omega)⟩
def post8 {α : Type} (I Ix : List α -> World -> Prop) (xs : List α) (W : World) : Exit -> Act -> World -> Prop
 | .normal, _, W' => Kept [] W W' ∧ I xs W'
 | .ret, _, W' => Oth W W' ∧ Ix xs W'
 | _, _, _ => False
def Seq8 {α : Type} (n : Nat) (P : Program) (gf : Nat) (lb : Array Value) (encs : α -> Array Value) (S : List α -> Prop) (Nx : List α -> α -> Prop) (w : World) : Prop :=
 ∀ (l : Nat) (J Jx : List α -> World -> Prop) (W : World), Below w.heap.size w W -> (∀ s A C, J s A -> Below W.heap.size A C -> J s C) →
  (∀ pre x W1, J pre W1 -> Nx pre x -> YieldAt Fence.wide (n - 1) P l (encs x) W1 fun e W' => (e = .returned (.bool true) ∧ J (pre ++ [x]) W' ∧ Cel W1 W') ∨ (e = .returned (.bool false) ∧ Jx (pre ++ [x]) W')) →
  J [] W -> CallsIn Fence.wide n P gf (#[.func (.yield l) #[] #[]] ++ lb) W fun e W' => (∃ v, e = .returned v) ∧ ((∃ xs, S xs ∧ J xs W') ∨ ∃ pre, Jx pre W')
theorem range8 {α : Type} {n : Nat} {P : Program} {g : Operand} {ps : Array Tmp} {assign body : Code} {Q : Exit -> Act -> World -> Prop} {a : Act} {w : World}
  {gf : Nat} {lb : Array Value} (hg : a.eval g = .func (.func gf) #[] lb) (eg : ∀ args w, (callFunc gf args).run P w = .ok (.enter gf args) w)
  {encs : α -> Array Value} {S : List α -> Prop} {Nx : List α -> α -> Prop} (hseq : Seq8 (n - 1) P gf lb encs S Nx w) (hps : ∀ x, (encs x).size = ps.size)
  (I Ix : List α -> World -> Prop) (hI : ∀ s A C, I s A -> Below w.heap.size A C -> I s C) (hIx : ∀ s A C, Ix s A -> Below w.heap.size A C -> Ix s C) (h0 : I [] w) (a₁ : α -> Act)
  (hassign : ∀ (l : Nat) (x : α) (W : World) (K : Act -> World -> Prop), K (a₁ x) W →
   assign.wpIn (Fence.wide.inRound l) (n - 1 - 1) P (Exit.then K (fun _ _ _ => False)) { tmps := (ps.zip (encs x)).foldl (fun t (p, v) => t.setIfInBounds p v) a.tmps, defers := [] } W)
  (hbody : ∀ (l : Nat) (pre : List α) (x : α) (W : World), I pre W -> Nx pre x -> body.wpIn (Fence.wide.inRound l) (n - 1 - 1) P (post8 I Ix (pre ++ [x]) W) (a₁ x) W)
  (hdone : ∀ (xs : List α) (W : World), S xs -> I xs W -> W.heap[w.heap.size]? = some (.deferred (some [])) -> Q .normal { a with defers := { target := .collected w.heap.size, args := #[] } :: a.defers } W)
  (hstop : ∀ (pre : List α) (W : World), Ix pre W -> W.heap[w.heap.size]? = some (.deferred (some [])) -> Code.ret.wpIn Fence.wide n P Q { a with defers := { target := .collected w.heap.size, args := #[] } :: a.defers } W) :
  (Code.rangeFunc g ps assign body).wpIn Fence.wide n P Q a w := by
 obtain ⟨b, hb⟩ := nm (w.heap.size)
 refine wpIn_rangeFunc fun fn hfn => ?_
 -- the record of the loop, in each of its states
 let rc : LoopState -> Option Code -> Obj := fun st pe => .loop { state := st, pending := pe, fn, tmps := a.tmps, params := ps, assign, body, defers := w.heap.size }
 obtain ⟨W1, hW1⟩ := nm ((w.alloc (.deferred (some []))).alloc (rc .ready none))
 have z1 : W1.heap.size = b + 2 := by rw [<-hW1, <-hb]; simp
 have kw : Below w.heap.size w W1 := by rw [<-hW1]; exact ((Below.refl _ w).alloc (Nat.le_refl _) _).alloc (by simp) _
 have r1 : W1.heap[b + 1]? = some (rc .ready none) := by
  rw [<-hW1, <-hb]
  have := World.alloc_heap_new (w.alloc (.deferred (some []))) (rc .ready none)
  rwa [World.size_alloc] at this
 have d1 : W1.heap[b]? = some (.deferred (some [])) := by
  rw [<-hW1, <-hb]
  exact (Below.heap_alloc _ _ _ (by simp)).trans (World.alloc_heap_new w _)
 refine ⟨b + 1, [{ target := .collected b, args := #[] }], W1, { target := .fn (.func gf) lb, args := #[.func (.yield (b + 1)) #[] #[]] }, W1, gf, #[.func (.yield (b + 1)) #[] #[]] ++ lb, W1, ?_, ?_, fun _ _ => trivial, ?_, fun e => (by cases e), ?_⟩
 ·rw [<-hW1, <-hb]
  exact run_enterLoop_outer _ _ _ _ _
 ·simp only [resolve, hg]
  simp [go_sem]
 ·simp [invoke, go_sem, eg]
 -- while it runs: the caller's word, the record, the block for deferred calls
 refine (hseq (b + 1) (fun pre W => I pre W ∧ W.heap[b + 1]? = some (rc .ready none) ∧ W.heap[b]? = some (.deferred (some []))) (fun pre W => Ix pre W ∧ W.heap[b + 1]? = some (rc .done (some .ret)) ∧ W.heap[b]? = some (.deferred (some []))) W1 kw ?_ ?_ ⟨hI _ _ _ h0 kw, r1, d1⟩).mono ?_
 ·rintro s A C ⟨h1, h2, h3⟩ hk
  have hlt : b + 1 < W1.heap.size := by omega
  exact ⟨hI _ _ _ h1 (hk.mono (by omega)), (hk.block _ hlt).trans h2, (hk.block _ (by omega)).trans h3⟩
 ·rintro pre x W ⟨hi, hl, hk⟩ hlen
  have hy := run_yield (P := P) (args := encs x) hl (hps x)
  refine ⟨fn, _, assign, body, hy, roundIn_of_wpIn hfn (hassign _ x W _ ⟨_, run_beginRound hl rfl, ?_⟩)⟩
  obtain ⟨W2, hW2⟩ := nm (W.putObj (b + 1) (rc .busy none))
  have hll : b + 1 < W.heap.size := (gs hl).1
  have r2 : W2.heap[b + 1]? = some (rc .busy none) := by rw [<-hW2]; exact World.putObj_heap_same hll
  have d2 : W2.heap[b]? = some (.deferred (some [])) := by rw [<-hW2]; exact (World.putObj_heap_other (by omega)).trans hk
  have i2 : I pre W2 := hI _ _ _ hi (by rw [<-hW2]; exact below_put _ (by omega))
  have c2 : Cel W W2 := by rw [<-hW2]; exact Cel.put _ hl rfl
  show body.wpIn (Fence.wide.inRound (b + 1)) (n - 1 - 1) P _ (a₁ x) (W.putObj (b + 1) (rc .busy none))
  rw [hW2]
  refine wpIn_mono (hbody _ pre x W2 i2 hlen) ?_
  intro e a3 W3 hp
  cases e with
  | normal =>
   obtain ⟨hk3, hi3⟩ := hp
   have r3 := hk3.oth _ _ r2 rfl
   have d3 := hk3.oth _ _ d2 rfl
   have hr := run_endRound (P := P) none r3
   exact ⟨_, _, hr, .inl ⟨rfl, ⟨hI _ _ _ hi3 (below_put _ (by omega)), World.putObj_heap_same (gs r3).1, (World.putObj_heap_other (by omega)).trans d3⟩, (c2.trans hk3.cel).trans (Cel.put _ r3 rfl)⟩⟩
  | ret =>
   obtain ⟨ho3, hi3⟩ := hp
   have r3 := ho3 _ _ r2 rfl
   have d3 := ho3 _ _ d2 rfl
   have hr := run_endRound (P := P) (some .ret) r3
   exact ⟨_, _, hr, .inr ⟨rfl, hIx _ _ _ hi3 (below_put _ (by omega)), World.putObj_heap_same (gs r3).1, (World.putObj_heap_other (by omega)).trans d3⟩⟩
  | exit id => exact hp.elim
  | goto t => exact hp.elim
  | panic ch => exact hp.elim
  | outgrown => exact hp.elim
 ·rintro e W2 ⟨⟨v, rfl⟩, (⟨xs, hS, hi, hl, hk⟩ | ⟨pre, hi, hl, hk⟩)⟩
  ·refine ⟨none, _, run_endLoop (P := P) hl (by simp), ?_⟩
   have hd := hdone xs (W2.putObj (b + 1) (rc .exhausted none)) hS (hI _ _ _ hi (below_put _ (by omega))) (by rw [hb]; exact (World.putObj_heap_other (by omega)).trans hk)
   rw [hb] at hd
   exact hd
  ·refine ⟨some .ret, _, run_endLoop (P := P) hl (by simp), ?_⟩
   have hd := hstop pre (W2.putObj (b + 1) (rc .exhausted (some .ret))) (hIx _ _ _ hi (below_put _ (by omega))) (by rw [hb]; exact (World.putObj_heap_other (by omega)).trans hk)
   rw [hb] at hd
   exact hd
end

section
attribute [local go_sem] Oper.semAt_some
def winE (data : List UInt8) (size : Nat) (k : Nat) : Array Value := #[.int .i64 k, .int .i64 (Rol.sum (wat data size k))]
def winN (data : List UInt8) (size : Nat) (pre : List Nat) (k : Nat) : Prop := k = pre.length ∧ k + size <= data.length
def winS (data : List UInt8) (size : Nat) (xs : List Nat) : Prop := xs.length = data.length + 1 - size
theorem Cel.cell {A C : World} (h : Cel A C) {p : Addr} {v : Value} {cs : Array Value} {t : TypeId} {fr : Nat × Nat} (hc : A.cell? p = some v) (hr : A.heap[p.block]? = some (.cells cs t fr)) : C.cell? p = some v := by
 have := h.2 p.block _ hr rfl
 rw [World.cell?_of_block (w := A) (this.trans hr.symm)]
 exact hc
structure Wx8 (w : World) (Kb Sb g cap size : Nat) (data : List UInt8) : Prop where
 c : Wc w Kb Sb g cap size data
 rk : ∃ cs t fr, w.heap[Kb]? = some (.cells cs t fr)
 rs : ∃ cs t fr, w.heap[Sb]? = some (.cells cs t fr)
 rg : ∃ cs t fr, w.heap[g]? = some (.cells cs t fr)
theorem Wx8.cel {A C : World} {Kb Sb g cap size : Nat} {data : List UInt8} (h : Wx8 A Kb Sb g cap size data) (k : Cel A C) : Wx8 C Kb Sb g cap size data := by
 obtain ⟨hc, ⟨c1, t1, f1, r1⟩, ⟨c2, t2, f2, r2⟩, ⟨c3, t3, f3, r3⟩⟩ := h
 exact ⟨⟨k.cell hc.k r1, k.cell hc.s r2, fun i hi => k.cell (hc.d i hi) r3, hc.h1, hc.h2, hc.le, hc.max⟩, ⟨c1, t1, f1, k.2 _ _ r1 rfl⟩, ⟨c2, t2, f2, k.2 _ _ r2 rfl⟩, ⟨c3, t3, f3, k.2 _ _ r3 rfl⟩⟩
theorem Wx8.lts {A : World} {Kb Sb g cap size : Nat} {data : List UInt8} (h : Wx8 A Kb Sb g cap size data) : Kb < A.heap.size ∧ Sb < A.heap.size ∧ g < A.heap.size := by
 obtain ⟨hc, ⟨c1, t1, f1, r1⟩, ⟨c2, t2, f2, r2⟩, ⟨c3, t3, f3, r3⟩⟩ := h
 exact ⟨(gs r1).1, (gs r2).1, (gs r3).1⟩
theorem Wx8.below {A C : World} {Kb Sb g cap size : Nat} {data : List UInt8} (h : Wx8 A Kb Sb g cap size data) (k : Below A.heap.size A C) : Wx8 C Kb Sb g cap size data := h.cel (Kept.of_below k).cel
theorem Wx8.kept1 {A C : World} {P Kb Sb g cap size : Nat} {data : List UInt8} (h : Wx8 A Kb Sb g cap size data) (k : Kept [P] A C) (h1 : Kb ≠ P) (h2 : Sb ≠ P) (h3 : g ≠ P) : Wx8 C Kb Sb g cap size data := by
 have hl := h.lts
 obtain ⟨hc, ⟨c1, t1, f1, r1⟩, ⟨c2, t2, f2, r2⟩, ⟨c3, t3, f3, r3⟩⟩ := h
 exact ⟨hc.kept k (by simpa using h1) (by simpa using h2) (by simpa using h3), ⟨c1, t1, f1, (k.block _ hl.1 (by simpa using h1)).trans r1⟩, ⟨c2, t2, f2, (k.block _ hl.2.1 (by simpa using h2)).trans r2⟩, ⟨c3, t3, f3, (k.block _ hl.2.2 (by simpa using h3)).trans r3⟩⟩
theorem Kept.below0 {A C : World} (h : Kept [] A C) : Below A.heap.size A C := h.below (Nat.le_refl _) (by simp)
theorem win_seq (n : Nat) (Kb Sb g cap size : Nat) (data : List UInt8) (w : World) (hc : Wx8 w Kb Sb g cap size data) :
  Seq8 n Tryz.prog 124 #[.pointer (some ⟨Kb, 0, none⟩), .pointer (some ⟨Sb, 0, none⟩)] (winE data size) (winS data size) (winN data size) w := by
 intro l J Jx W hB hJ hY h0
 have HC := hide (hc.below hB)
 have HJ : Hid (∀ s A C, J s A -> Below W.heap.size A C -> J s C) := hJ
 have HY : Hid (∀ pre x W1, J pre W1 -> winN data size pre x -> YieldAt Fence.wide (n - 1) Tryz.prog l (winE data size x) W1 fun e W' => (e = .returned (.bool true) ∧ J (pre ++ [x]) W' ∧ Cel W1 W') ∨ (e = .returned (.bool false) ∧ Jx (pre ++ [x]) W')) := hY
 have H0 := hide h0
 have ck := HC.out.c.k
 have cs := HC.out.c.s
 have hs1 := HC.out.c.h1
 have hs2 := HC.out.c.h2
 have hle := HC.out.c.le
 have hmx := HC.out.c.max
 have hzv := Tryz.zeroParts
 obtain ⟨N, hN⟩ : ∃ N, N = data.length := ⟨_, rfl⟩
 rw [<-hN] at ck hs2 hle hmx
 have HN : Hid (N = data.length) := hN
 have hsl : Sl W (some ⟨g, 0, none⟩) (data.take size) := (Sl.of (fun i hi => by rw [Nat.zero_add]; exact HC.out.c.d i hi)).take size
 have hcut : ∀ W, (Instr.slice 27 (.slice (some ⟨g, 0, none⟩) N cap) none (some (.int .i64 size)) none).run Tryz.prog W = .ok (.slice (some ⟨g, 0, none⟩) size cap) W := fun W => Tryz.cutTo W _ _ _ _ (by omega)
 have hw0 : data.take size = wat data size 0 := by simp [wat]
 have hpo := partsOf_n (some ⟨g, 0, none⟩) size cap (data.take size) W (by have := HN.out; simp; omega) (by omega) hsl
 rw [hw0] at hpo
 clear hc hJ hY h0 hB hN hsl hw0
 refine callsIn_of_wp Tryz.func124 rfl trivial ?_ rfl
 simp only [Tryz.ntmps124, List.size_toArray, List.length_cons, List.length_nil, Nat.reduceAdd, Nat.reduceSub, Array.replicate_succ, Array.replicate_zero, List.push_toArray, List.append_toArray, List.nil_append, List.cons_append]
 gi_wp2_with (refine ⟨trivial, (fun e => by cases e), ?_⟩; gi_at_call 111; refine (callsIn_wide.2 hpo).mono ?_; rintro e w1 ⟨rfl, hk1⟩; have HK1 := hide hk1; clear hpo hk1)
 have hzW : W.heap.size <= w1.heap.size := HK1.out.size
 obtain ⟨w2, hw2⟩ : ∃ w2, w2 = w1.alloc (.cells #[.int .u16 (Rol.pa (wat data size 0)), .int .u16 (Rol.pb (wat data size 0))] 172) := ⟨_, rfl⟩
 have HW : Hid (Wl w2 w1.heap.size (Rol.pa (wat data size 0)) (Rol.pb (wat data size 0))) := ⟨by rw [hw2]; exact heap_alloc_new _ _⟩
 have hkk : Kept [] W w2 := by rw [hw2]; exact HK1.out.alloc _
 have HC1 : Hid (Wx8 w2 Kb Sb g cap size data) := HC.out.cel hkk.cel
 have HI : Hid (J [] w2) := HJ.out _ _ _ H0.out hkk.below0
 have HL0 : Hid (Kb < W.heap.size ∧ Sb < W.heap.size ∧ g < W.heap.size) := HC.out.lts
 try rw [<-hw2]
 clear HC H0 HK1 hkk hcut hzv ck cs hw2
 generalize w1.heap.size = P at HW hzW ⊢
 clear w1
 gi_loopw [5] (fun i wr => ∃ (k : Nat) (pre : List Nat), k + size <= N ∧ pre.length = k ∧ i = .int .i64 k ∧ Hid (Wl wr P (Rol.pa (wat data size k)) (Rol.pb (wat data size k))) ∧ Hid (Wx8 wr Kb Sb g cap size data) ∧ Hid (J pre wr)) (fun i wr => N - (intOf i).toNat)
 case atStart => exact ⟨0, [], by omega, rfl, rfl, HW, HC1, HI⟩
 case round =>
  clear HW HC1 HI
  obtain ⟨k, pre, hk, hpre, rfl, HW, HC, HI⟩ := hrel
  have ha := Rol.pa_lt (wat data size k)
  have hb := Rol.pb_lt (wat data size k)
  have p0 : wr.cell? ⟨P, 0, none⟩ = some (.int .u16 (Rol.pa (wat data size k))) := by rw [cell_of_row _ _ _ _ _ _ HW.out.row]; rfl
  have p1 : wr.cell? ⟨P, 1, none⟩ = some (.int .u16 (Rol.pb (wat data size k))) := by rw [cell_of_row _ _ _ _ _ _ HW.out.row]; rfl
  have HPL : Hid (P < wr.heap.size) := World.block_lt_of_cell? _ _ p0
  have HPS : Hid (∀ w, Calls Tryz.prog 112 #[pv (Rol.pa (wat data size k)) (Rol.pb (wat data size k))] w fun e w' => e = .returned (.int .i64 (Rol.sum (wat data size k))) ∧ Kept [] w w') := fun w => psum_any _ _ w ha hb
  gi_wp2_with (refine ⟨trivial, (fun e => by cases e), ?_⟩; gi_at_call 112; refine (callsIn_wide.2 (HPS.out _)).mono ?_; rintro e w3 ⟨rfl, hk3⟩; have HK3 := hide hk3; clear hk3; have HI3 : Hid (J pre w3) := HJ.out _ _ _ HI.out ((HK3.out.below0).mono (by have := HPL.out; omega)); obtain ⟨fn, tmps, assign, body, hy, hR⟩ := HY.out pre k w3 HI3.out ⟨hpre.symm, by have := HN.out; omega⟩; simp only [winE] at hy)
  have HC3 : Hid (Wx8 w3 Kb Sb g cap size data) := HC.out.cel HK3.out.cel
  have HW3 : Hid (Wl w3 P (Rol.pa (wat data size k)) (Rol.pb (wat data size k))) := HW.out.kept HK3.out (by simp)
  have HPL3 : Hid (P < w3.heap.size) := Nat.lt_of_lt_of_le HPL.out HK3.out.size
  clear HI HC HW p0 p1 HPS HPL HK3
  refine ⟨(fun e => by cases e), hR.mono ?_⟩
  rintro e w4 (⟨rfl, hT, hcel⟩ | ⟨rfl, hF⟩)
  rotate_left 1
  ·have HF := hide hF
   clear hF HI3 HC3 HW3 HY hR hy
   gi_wp2
   exact bodyPost_end (results_none rfl _ _ _) rfl ⟨⟨_, rfl⟩, .inr ⟨_, HF.out⟩⟩
  ·have HT : Hid (J (pre ++ [k]) w4) := hT
   have HC4 : Hid (Wx8 w4 Kb Sb g cap size data) := HC3.out.cel hcel
   have HW4 : Hid (Wl w4 P (Rol.pa (wat data size k)) (Rol.pb (wat data size k))) := ⟨hcel.2 _ _ HW3.out.row rfl⟩
   have ck := HC4.out.c.k
   have cs := HC4.out.c.s
   rw [<-HN.out] at ck
   have HPL4 : Hid (P < w4.heap.size) := Nat.lt_of_lt_of_le HPL3.out hcel.1
   clear hT hcel HI3 HC3 HW3 HY HPL3 hR hy
   by_cases hend : k + size = N
   ·have g1 : ((k : Int) + (size : Int) == (N : Int)) = true := by simp; omega
    have HS2 : Hid (winS data size (pre ++ [k])) := by
     show (pre ++ [k]).length = _
     have := HN.out
     simp [hpre]; omega
    clear HC4 HW4 HJ
    gi_wp2
    exact bodyPost_ret (results_none rfl _ _ _) rfl ⟨⟨_, rfl⟩, .inl ⟨_, HS2.out, HT.out⟩⟩
   ·have g1 : ((k : Int) + (size : Int) == (N : Int)) = false := by simp; omega
    have hlt : k + size < N := by omega
    have p0 : w4.cell? ⟨P, 0, none⟩ = some (.int .u16 (Rol.pa (wat data size k))) := by rw [cell_of_row _ _ _ _ _ _ HW4.out.row]; rfl
    have p1 : w4.cell? ⟨P, 1, none⟩ = some (.int .u16 (Rol.pb (wat data size k))) := by rw [cell_of_row _ _ _ _ _ _ HW4.out.row]; rfl
    have d0 := HC4.out.c.d k (by have := HN.out; omega)
    have d1 := HC4.out.c.d (k + size) (by have := HN.out; omega)
    have hx : (data.getD k 0).toNat < 256 := UInt8.toNat_lt _
    have hy : (data.getD (k + size) 0).toNat < 256 := UInt8.toNat_lt _
    have ea : mva (Rol.pa (wat data size k)) (data.getD k 0).toNat (data.getD (k + size) 0).toNat = Rol.pa (wat data size (k + 1)) := by
     have := HN.out
     rw [wat_head data size k (by omega) (by omega), wat_next data size k (by omega) (by omega)]; exact mva_move _ _ _
    have eb : mvb (Rol.pa (wat data size k)) (Rol.pb (wat data size k)) (data.getD k 0).toNat (data.getD (k + size) 0).toNat size = Rol.pb (wat data size (k + 1)) := by
     have := HN.out
     rw [wat_head data size k (by omega) (by omega), wat_next data size k (by omega) (by omega)]; exact mvb_move _ _ _ _ (by simp; omega)
    have hmv := fun w => moved_any (Rol.pa (wat data size k)) (Rol.pb (wat data size k)) (data.getD k 0).toNat (data.getD (k + size) 0).toNat size w ha hb hx hy (by omega)
    rw [ea, eb] at hmv
    have HMV : Hid (∀ w, Calls Tryz.prog 125 #[pv (Rol.pa (wat data size k)) (Rol.pb (wat data size k)), .int .u8 (data.getD k 0).toNat, .int .u8 (data.getD (k + size) 0).toNat, .int .i64 size] w fun e w' => e = .returned (pv (Rol.pa (wat data size (k + 1))) (Rol.pb (wat data size (k + 1)))) ∧ Kept [] w w') := hmv
    clear hmv ea eb
    have l1 := Rol.pa_lt (wat data size (k + 1))
    have l2 := Rol.pb_lt (wat data size (k + 1))
    generalize Rol.pa (wat data size k) = a at HMV p0 ha HW4 ⊢
    generalize Rol.pb (wat data size k) = b at HMV p1 hb HW4 ⊢
    generalize (data.getD k 0).toNat = x at HMV d0 hx
    generalize (data.getD (k + size) 0).toNat = y at HMV d1 hy
    have HMV3 := HMV.out
    clear HMV
    gi_wp2
    obtain ⟨m, hm⟩ : ∃ m, m = k + size := ⟨_, rfl⟩
    rw [<-hm] at d1 hlt
    have a3 : IntKind.i64.wrap ((k : Int) + (size : Int)) = (m : Int) := by rw [hm]; simp [IntKind.wrap, IntKind.bits, IntKind.signed]; omega
    have hkN : k < N := by omega
    have HM : Hid (m = k + size) := hm
    clear hm
    refine wpIn_wide.2 ?_
    go_still_tail 12, Tryz.followsE
    rw [World.drew_eq]
    have hk5' : Kept [] w4 w4.drew := (Kept.refl [] w4).drew
    go_wp2_with (go_at_call 125; refine (HMV3 _).mono ?_; rintro e w5 ⟨rfl, hk5⟩; have HW5 : Hid (Wl w5 P a b) := HW4.out.kept (hk5'.tr hk5) (by simp); have q0 : w5.cell? ⟨P, 0, none⟩ = some (.int .u16 a) := (by rw [cell_of_row _ _ _ _ _ _ HW5.out.row]; rfl); have q1 : w5.cell? ⟨P, 1, none⟩ = some (.int .u16 b) := (by rw [cell_of_row _ _ _ _ _ _ HW5.out.row]; rfl); have f0 : w5.frozen? ⟨P, 0, none⟩ = false := frozen_of_row _ _ _ _ _ HW5.out.row; have f1 : w5.frozen? ⟨P, 1, none⟩ = false := frozen_of_row _ _ _ _ _ HW5.out.row)
    have hk6 : Kept [P] w4 ((w5.setCell ⟨P, 0, none⟩ (.int .u16 (Rol.pa (wat data size (k + 1)) : Nat))).setCell ⟨P, 1, none⟩ (.int .u16 (Rol.pb (wat data size (k + 1)) : Nat))) := ((((Kept.refl [P] w4).drew.tr hk5).setCell (by simp) _).setCell (by simp) _)
    have HW6 : Hid (Wl ((w5.setCell ⟨P, 0, none⟩ (.int .u16 (Rol.pa (wat data size (k + 1)) : Nat))).setCell ⟨P, 1, none⟩ (.int .u16 (Rol.pb (wat data size (k + 1)) : Nat))) P (Rol.pa (wat data size (k + 1))) (Rol.pb (wat data size (k + 1)))) := by
     have r1 := heap_setCell_same w5 P 0 _ _ (.int .u16 (Rol.pa (wat data size (k + 1)) : Nat)) HW5.out.row
     refine ⟨?_⟩
     rw [heap_setCell_same _ _ _ _ _ _ r1]
     rfl
    have hl := HL0.out
    have HC6 := HC4.out.kept1 hk6 (by omega) (by omega) (by omega)
    have HI6 := HJ.out (pre ++ [k]) _ _ HT.out ((hk6.below (Nat.le_of_lt (Nat.lt_of_le_of_lt hzW HPL4.out)) (by simpa using hzW)))
    clear HC4 HT HW4 HW5
    gi_wp2
    exact ⟨⟨k + 1, pre ++ [k], by have := HM.out; omega, by simp [hpre], by go_num, HW6, HC6, HI6⟩, by simp [intOf]; omega⟩
end

section
open Dlt
attribute [local go_sem] Oper.semAt_some
namespace Dlt
def fitI (wd : Int) (Z : Nat) (L : List Wk) (ys : List UInt8) (k : Nat) : Option Nat := leastI L (Rol.sum (wat ys Z k)) (Sha.ident wd (wat ys Z k))
def nextI (wd : Int) (Z : Nat) (L : List Wk) (ys : List UInt8) : Nat × Nat :=
 match (List.range (ys.length + 1 - Z)).find? fun k => (fitI wd Z L ys k).isSome with
 | some k => (k, (fitI wd Z L ys k).getD 0)
 | none => (ys.length, 0)
theorem nextI_none {wd : Int} {Z : Nat} {L : List Wk} {ys : List UInt8} (h : ∀ k, k < ys.length + 1 - Z -> fitI wd Z L ys k = none) : nextI wd Z L ys = (ys.length, 0) := by
 unfold nextI
 have : (List.range (ys.length + 1 - Z)).find? (fun k => (fitI wd Z L ys k).isSome) = none := by
  rw [List.find?_eq_none]
  intro k hk
  rw [h k (by simpa using hk)]
  simp
 rw [this]
theorem range_first {p : Nat -> Bool} {n k : Nat} (hk : k < n) (h : ∀ j, j < k -> p j = false) (hp : p k = true) : (List.range n).find? p = some k := by
 obtain ⟨m, rfl⟩ : ∃ m, n = k + (m + 1) := ⟨n - k - 1, by omega⟩
 rw [List.range_eq_range', <-List.range'_append_1, List.find?_append, List.range'_succ, List.find?_cons]
 have : (List.range' 0 k).find? p = none := by
  rw [List.find?_eq_none]
  intro j hj
  rw [h j (by simp [List.mem_range'] at hj; omega)]
  simp
 rw [this, Nat.zero_add, hp]
 rfl
theorem nextI_some {wd : Int} {Z : Nat} {L : List Wk} {ys : List UInt8} {k i : Nat} (hk : k < ys.length + 1 - Z) (h : ∀ j, j < k -> fitI wd Z L ys j = none) (hi : fitI wd Z L ys k = some i) : nextI wd Z L ys = (k, i) := by
 unfold nextI
 rw [range_first hk (fun j hj => by rw [h j hj]; rfl) (by rw [hi]; rfl)]
 simp [hi]
theorem nextI_le (wd : Int) (Z : Nat) (L : List Wk) (ys : List UInt8) : (nextI wd Z L ys).1 <= ys.length := by
 unfold nextI
 split
 ·next k h =>
  have := List.mem_of_find?_eq_some h
  simp at this
  show k <= _
  omega
 ·exact Nat.le_refl _
end Dlt
def noDefer8 (o : Oper) : Bool := match o.op with | .defer _ => false | _ => true
theorem noDefer8_all {ops : Array Oper} (h : ops.all noDefer8 = true) : ∀ (i : Nat) (o : Oper) (c : Call), ops[i]? = some o -> o.op ≠ .defer c := by
 intro i o c ho e
 rw [Array.all_eq_true] at h
 obtain ⟨hi, rfl⟩ := gs ho
 have := h i hi
 unfold noDefer8 at this
 rw [e] at this
 cases this
theorem regionIn_held8 {P : Program} {l n id : Nat} {ops : Array Oper} {a : Act} {w : World} {Q : Exit -> Act -> World -> Prop} {S : World -> Prop} (hm : P.follows .mixedOrders = true) (hQ : ∀ a w, ¬ Q .outgrown a w) (hd : ops.all noDefer8 = true) (hS : S w.drew)
  (h : S w.drew -> wpAnyH P .any ops Q S ops.size (Array.replicate ops.size false) a w.drew) : (Code.region id ops true).wpIn (Fence.wide.inRound l) n P Q a w :=
 regionIn_round hm hQ (noDefer8_all hd) (wpAny_of_held _ _ _ _ (h hS))
theorem cells_of8 {w : World} {p : Addr} {u : Value} (h : w.cell? p = some u) : ∃ c e fr, w.heap[p.block]? = some (.cells c e fr) ∧ c[p.off]? = some u := by
 unfold World.cell? at h
 split at h
 ·next c t f hb =>
  refine ⟨c, t, f, hb, ?_⟩
  split at h
  ·cases h
  ·exact h
 ·cases h
theorem Wx8.of {w : World} {Kb Sb g cap size : Nat} {data : List UInt8} (h : Wc w Kb Sb g cap size data) : Wx8 w Kb Sb g cap size data := by
 obtain ⟨c1, t1, f1, r1, _⟩ := cells_of8 h.k
 obtain ⟨c2, t2, f2, r2, _⟩ := cells_of8 h.s
 have h1 := h.h1
 have h2 := h.h2
 obtain ⟨c3, t3, f3, r3, _⟩ := cells_of8 (h.d 0 (by omega))
 exact ⟨h, ⟨_, _, _, r1⟩, ⟨_, _, _, r2⟩, ⟨_, _, _, r3⟩⟩
theorem win1_seq (n : Nat) (data : List UInt8) (size : Nat) (w : World) (h : data.length < size) :
  Seq8 n Tryz.prog 122 #[] (winE data size) (winS data size) (winN data size) w := by
 intro l J Jx W hB hJ hY h0
 refine (callsIn_wide.2 (win1_any _ W)).mono ?_
 rintro e w' ⟨rfl, rfl⟩
 exact ⟨⟨_, rfl⟩, .inl ⟨[], by show 0 = _; omega, h0⟩⟩
theorem windows_seq (ao : Option Addr) (n cap size : Nat) (data : List UInt8) (w : World) (hx : data.length = n) (hm : n <= 140737488355328) (h : Sl w ao data) (h1 : 1 <= size) :
  Calls Tryz.prog 100 #[.slice ao n cap, .int .i64 size] w fun e w' => ∃ gf lb, e = .returned (.func (.func gf) #[] lb) ∧ (∀ args w, (callFunc gf args).run Tryz.prog w = .ok (.enter gf args) w) ∧ (∀ m, Seq8 m Tryz.prog gf lb (winE data size) (winS data size) (winN data size) w') ∧ Kept [] w w' := by
 by_cases h2 : size <= n
 ·refine (windows_ok ao n cap size data w hx hm h h1 h2).mono ?_
  rintro e w' ⟨Kb, Sb, g, cap', rfl, hc, _, _, _, hk⟩
  exact ⟨_, _, rfl, enters_of Tryz.func124 (by kernel_rfl) rfl, fun m => win_seq m Kb Sb g cap' size data w' (Wx8.of hc), hk⟩
 ·refine (windows_bad ao n cap size w (.inr (by omega))).mono ?_
  rintro e w' ⟨rfl, hk⟩
  exact ⟨_, _, rfl, enters_of Tryz.func122 (by kernel_rfl) rfl, fun m => win1_seq m data size w' (by omega), hk⟩
end

section
open Dlt
attribute [local go_sem] Oper.semAt_some
structure NxI (wd : Int) (Z : Nat) (L : List Wk) (ys : List UInt8) (wL : World) (pre : List Nat) (W : World) : Prop where
 k : Kept [] wL W
 no : ∀ j, j < pre.length -> fitI wd Z L ys j = none
structure NxS (wd : Int) (Z : Nat) (L : List Wk) (ys : List UInt8) (A B : Nat) (wL W : World) : Prop where
 k : Kept [A, B] wL W
 la : A < wL.heap.size
 lb : B < wL.heap.size
 a : W.cell? ⟨A, 0, none⟩ = some (.int .i64 (nextI wd Z L ys).1)
 b : W.cell? ⟨B, 0, none⟩ = some (.int .i64 (nextI wd Z L ys).2)
theorem NxI.later {wd : Int} {Z : Nat} {L : List Wk} {ys : List UInt8} {wL : World} {pre : List Nat} {A C : World} (h : NxI wd Z L ys wL pre A) (k : Below wL.heap.size A C) : NxI wd Z L ys wL pre C :=
 ⟨Kept.of_below (h.k.below0.trans k), h.no⟩
theorem Kept.later2 {l : List Nat} {w A C : World} (h : Kept l w A) (k : Below w.heap.size A C) : Kept l w C := ⟨k.os.trans h.os, k.tape.trans h.tape, k.output.trans h.output, Nat.le_trans h.size k.size, fun i hi hn => (k.block i hi).trans (h.block i hi hn)⟩
theorem NxS.later {wd : Int} {Z : Nat} {L : List Wk} {ys : List UInt8} {A B : Nat} {wL W C : World} (h : NxS wd Z L ys A B wL W) (k : Below wL.heap.size W C) : NxS wd Z L ys A B wL C :=
 ⟨h.k.later2 k, h.la, h.lb, (World.cell?_of_block (k.block _ h.la)).trans h.a, (World.cell?_of_block (k.block _ h.lb)).trans h.b⟩
theorem wat_length8 (xs : List UInt8) (n lo : Nat) (h : lo + n <= xs.length) : (wat xs n lo).length = n := by simp [wat]; omega
theorem Sl.wat8 {w : World} {g off : Nat} {xs : List UInt8} (h : Sl w (some ⟨g, off, none⟩) xs) (n lo : Nat) (hl : lo + n <= xs.length) : Sl w (some ⟨g, off + lo, none⟩) (wat xs n lo) := by
 refine Sl.of fun i hi => ?_
 have hi' : i < n := by rw [wat_length8 _ _ _ hl] at hi; exact hi
 obtain ⟨b', off', e', hcell⟩ := h (lo + i) (by omega)
 cases e'
 rw [show off + lo + i = off + (lo + i) by omega, hcell]
 have : (wat xs n lo).getD i 0 = xs.getD (lo + i) 0 := by simp [wat, hi']
 rw [this]
theorem Oth.set2 {W V : World} (h : Kept [] W V) (p q : Addr) (x y : Value) : Oth W ((V.setCell p x).setCell q y) := by
 intro i o ho hc
 have h1 := h.oth i o ho hc
 exact (KeepsOthers.setCell _ _ _).same i _ ((KeepsOthers.setCell _ _ _).same i _ h1 hc) hc
theorem set2_cells {W : World} {A B : Nat} {x y u v : Value} (hne : A ≠ B) (ha : W.cell? ⟨A, 0, none⟩ = some u) (hb : W.cell? ⟨B, 0, none⟩ = some v) : ((W.setCell ⟨A, 0, none⟩ x).setCell ⟨B, 0, none⟩ y).cell? ⟨A, 0, none⟩ = some x ∧ ((W.setCell ⟨A, 0, none⟩ x).setCell ⟨B, 0, none⟩ y).cell? ⟨B, 0, none⟩ = some y := by
 have k1 : Kept [A] W (W.setCell ⟨A, 0, none⟩ x) := (Kept.refl [A] W).setCell (by simp) _
 have k2 : Kept [B] (W.setCell ⟨A, 0, none⟩ x) ((W.setCell ⟨A, 0, none⟩ x).setCell ⟨B, 0, none⟩ y) := (Kept.refl [B] _).setCell (by simp) _
 have c1 : (W.setCell ⟨A, 0, none⟩ x).cell? ⟨A, 0, none⟩ = some x := World.cell?_setCell_same' _ _ _ (by rw [ha]; rfl)
 have c2 := Kept.cellOf k1 hb (by simpa using Ne.symm hne)
 exact ⟨Kept.cellOf k2 c1 (by simpa using hne), World.cell?_setCell_same' _ _ _ (by rw [c2]; rfl)⟩
theorem results_ints {fn : Func} {p q : Tmp} (h : fn.results = #[.cell p 3, .cell q 3]) (tmps : Array Value) (w : World) (A B : Addr) (x y : Value) (ha : tmps.getD p undef = .pointer (some A)) (hb : tmps.getD q undef = .pointer (some B)) (ca : w.cell? A = some x) (cb : w.cell? B = some y) :
  (results fn tmps).run Tryz.prog w = .ok (.tuple #[x, y]) w := by
 have e : ∀ (A : Addr) (x : Value), w.cell? A = some x -> (loadVar 3 A).run Tryz.prog w = .ok x w := fun A x hx => by
  have hu := Tryz.underlying3
  go_simp
 have ea := e A x ca
 have eb := e B y cb
 simp only [results, h]
 simp only [Array.getD_eq_getD_getElem?] at ha hb
 simp [Sem.run_bind, Result.andThen, asAddr, ha, hb, ea, eb]
theorem next_ok (wd : Int) (Z : Nat) (ao : Option Addr) (n cap M : Nat) (L : List Wk) (ro : Option Addr) (rn rc : Nat) (ys : List UInt8) (w : World) (base : Nat) (K : List Int) (V : List Value) (hL : L.length = n) (hn : n <= 1000000) (hcap : n <= cap) (hW : Wks w ao L) (hm : Fm w base M L n K V) (hyl : ys.length = rn) (hyc : rn <= rc) (hys : Sl w ro ys) (hym : rn <= 1000000) (hZ1 : 1 <= Z) (hZ2 : Z <= 4096) :
  Calls Tryz.prog 68 #[.agg (fdC wd Z ao n cap (some M)).toArray, .slice ro rn rc] w fun e w' => e = .returned (.tuple #[.int .i64 (nextI wd Z L ys).1, .int .i64 (nextI wd Z L ys).2]) ∧ Kept [] w w' := by
 have hF := FdAt.new w wd Z ao n cap M
 have c1 := hF.c (j := 1) (u := .int .i64 Z) rfl
 have HIN := hide (ai hL (ai hn (ai hcap (ai hW (ai hm (ai hyl (ai hyc hys)))))))
 have HF := hide hF
 obtain ⟨G, hG⟩ := nm (w.heap.size)
 rw [hG] at c1 HF
 have HWS := hide (fun W (h : Kept [] w W) => windows_seq ro rn rc Z ys W hyl (by omega) (hys.kept h (by simp)) hZ1)
 clear hL hn hcap hW hm hyl hyc hys hF
 refine (callsIn_wide (n := 5)).1 ?_
 refine callsIn_of_wp_marks Tryz.func68 rfl trivial ?_ rfl
 simp only [Tryz.ntmps68, List.size_toArray, List.length_cons, List.length_nil, Nat.reduceAdd, Nat.reduceSub, Array.replicate_succ, Array.replicate_zero, List.push_toArray, List.append_toArray, List.nil_append, List.cons_append]
 have HK4 := hide (((((Kept.refl [] w).alloc (.cells (fdC wd Z ao n cap (some M)).toArray 109)).alloc (.cells #[.slice ro rn rc] 27)).alloc (.cells #[.int .i64 0] 3)).alloc (.cells #[.int .i64 0] 3))
 gi_wp2_with (refine ⟨trivial, ?_⟩; gi_at_call 100; refine (callsIn_wide.2 (HWS.out _ HK4.out)).mono ?_; rintro e wL ⟨gf, lb, rfl, heg, hsq, hk5⟩; have HSQ := hide (ai heg (ai hsq hk5)); clear heg hsq hk5)
 have HCE : Hid (∀ W, Kept [] wL W -> FdAt W G wd Z ao n cap M ∧ W.cell? ⟨G + 1, 0, none⟩ = some (.slice ro rn rc) ∧ W.cell? ⟨G + 1 + 1, 0, none⟩ = some (.int .i64 0) ∧ W.frozen? ⟨G + 1 + 1, 0, none⟩ = false ∧ W.cell? ⟨G + 1 + 1 + 1, 0, none⟩ = some (.int .i64 0) ∧ W.frozen? ⟨G + 1 + 1 + 1, 0, none⟩ = false ∧ Kept [] w W) := by
  intro W hW
  have k5 := HSQ.out.2.2.tr hW
  have kk := HK4.out.tr k5
  have s1 : (w.alloc (.cells (fdC wd Z ao n cap (some M)).toArray 109)).heap.size = G + 1 := by rw [World.size_alloc, hG]
  have s2 : ((w.alloc (.cells (fdC wd Z ao n cap (some M)).toArray 109)).alloc (.cells #[.slice ro rn rc] 27)).heap.size = G + 1 + 1 := by rw [World.size_alloc, s1]
  have s3 : (((w.alloc (.cells (fdC wd Z ao n cap (some M)).toArray 109)).alloc (.cells #[.slice ro rn rc] 27)).alloc (.cells #[.int .i64 0] 3)).heap.size = G + 1 + 1 + 1 := by rw [World.size_alloc, s2]
  have r1 := heap_new (w.alloc (.cells (fdC wd Z ao n cap (some M)).toArray 109)) (.cells #[.slice ro rn rc] 27)
  have r2 := heap_new ((w.alloc (.cells (fdC wd Z ao n cap (some M)).toArray 109)).alloc (.cells #[.slice ro rn rc] 27)) (.cells #[.int .i64 0] 3)
  have r3 := heap_new (((w.alloc (.cells (fdC wd Z ao n cap (some M)).toArray 109)).alloc (.cells #[.slice ro rn rc] 27)).alloc (.cells #[.int .i64 0] 3)) (.cells #[.int .i64 0] 3)
  rw [s1] at r1
  rw [s2] at r2
  rw [s3] at r3
  have x3 := (k5.block _ (by rw [World.size_alloc, s3]; omega) (by simp)).trans r3
  have k4 := ((Kept.refl [] (((w.alloc (.cells (fdC wd Z ao n cap (some M)).toArray 109)).alloc (.cells #[.slice ro rn rc] 27)).alloc (.cells #[.int .i64 0] 3))).alloc (.cells #[.int .i64 0] 3)).tr k5
  have x2 := (k4.block _ (by rw [s3]; omega) (by simp)).trans r2
  have k3 := ((Kept.refl [] ((w.alloc (.cells (fdC wd Z ao n cap (some M)).toArray 109)).alloc (.cells #[.slice ro rn rc] 27))).alloc (.cells #[.int .i64 0] 3)).tr k4
  have x1 := (k3.block _ (by rw [s2]; omega) (by simp)).trans r1
  have k2 := ((Kept.refl [] (w.alloc (.cells (fdC wd Z ao n cap (some M)).toArray 109))).alloc (.cells #[.slice ro rn rc] 27)).tr k3
  exact ⟨HF.out.kept k2 (by simp), by rw [cell_of_row _ _ _ _ _ _ x1]; rfl, by rw [cell_of_row _ _ _ _ _ _ x2]; rfl, frozen_of_row _ _ _ _ _ x2, by rw [cell_of_row _ _ _ _ _ _ x3]; rfl, frozen_of_row _ _ _ _ _ x3, kk⟩
 have HAB : Hid (G + 1 + 1 < wL.heap.size ∧ G + 1 + 1 + 1 < wL.heap.size) := by
  have := HSQ.out.2.2.size
  simp [World.size_alloc] at this
  rw [hG] at this
  exact ⟨by omega, by omega⟩
 have HOUT : Hid (∀ W, NxS wd Z L ys (G + 1 + 1) (G + 1 + 1 + 1) wL W -> Kept [] w W) := fun W h => ((HK4.out.tr HSQ.out.2.2).trans h.k (by simp [hG]; omega))
 clear HK4 HF HWS c1 hG
 refine range8 (gf := gf) (lb := lb) rfl HSQ.out.1 (HSQ.out.2.1 _) (fun _ => rfl) (NxI wd Z L ys wL) (fun _ W => NxS wd Z L ys (G + 1 + 1) (G + 1 + 1 + 1) wL W) (fun s A C h k => h.later k) (fun s A C h k => h.later k) ⟨Kept.refl _ _, fun j hj => absurd hj (by simp)⟩
  (fun x => { tmps := #[.agg (fdC wd Z ao n cap (some M)).toArray, .slice ro rn rc, .pointer (some ⟨G, 0, none⟩), .pointer (some ⟨G + 1, 0, none⟩), .pointer (some ⟨G + 1 + 1, 0, none⟩), .pointer (some ⟨G + 1 + 1 + 1, 0, none⟩), .int .i64 x, .int .i64 (Rol.sum (wat ys Z x)), undef, undef, .slice ro rn rc, .pointer (some ⟨G, 1, none⟩), .int .i64 Z, .func (.func gf) #[] lb, .int .i64 x, .int .i64 (Rol.sum (wat ys Z x)), undef, undef, undef, undef, undef, undef, undef, undef, undef, undef, undef, undef, undef, undef, undef, undef, undef, undef], defers := [] }) ?assign ?body ?done ?stop
 case assign =>
  intro l x W K hK
  simp only [winE]
  gi_wp2
  exact hK
 case body =>
  intro l pre k W hI hN
  obtain ⟨hkp, hkl⟩ := hN
  have HKP := hide hkp
  clear hkp
  have hI' := hide hI
  obtain ⟨hF, cr, ca, fa, cb, fb, hkw⟩ := HCE.out W hI.k
  obtain ⟨hL, hn, hcap, hW, hm, hyl, hyc, hys⟩ := HIN.out
  obtain ⟨b, off, rfl, _⟩ := hys 0 (by omega)
  have hcut := fun V => cut2 V b off rn rc k (k + Z) Z (by omega) (by omega) hyc rfl (by omega)
  have HLS := hide (fun U (h : Kept [] W U) => least_ok wd Z ao n cap M L (Rol.sum (wat ys Z k)) (some ⟨b, off + k, none⟩) Z (rc - k) (wat ys Z k) U base K V (by omega) (by omega) (hW.kept (hkw.tr h) (by simp)) (hm.kept (hkw.tr h)) (wat_length8 _ _ _ hkl) (by omega) ((hys.kept (hkw.tr h) (by simp)).wat8 Z k hkl) (by omega) hcap)
  have hcF := hF.range
  have c1 := hF.c (j := 1) (u := .int .i64 Z) rfl
  have hilF := Tryz.infoFd
  have hadd : IntKind.i64.wrap ((k : Int) + (Z : Int)) = ((k + Z : Nat) : Int) := by simp [IntKind.wrap, IntKind.bits, IntKind.signed]; omega
  have HFT : Hid (fitI wd Z L ys k = leastI L (Rol.sum (wat ys Z k)) (Sha.ident wd (wat ys Z k))) := rfl
  have HKL := hide hkl
  have HYL := hide hyl
  generalize leastI L (Rol.sum (wat ys Z k)) (Sha.ident wd (wat ys Z k)) = o at HLS HFT
  obtain ⟨m, hmm⟩ : ∃ m, m = k + Z := ⟨_, rfl⟩
  rw [<-hmm] at hadd hcut
  clear hI hW hm hys hkw hkl hyl hmm
  gi_wp2
  refine regionIn_held8 (S := fun w' => Kept [] W w') (by kernel_rfl) (fun _ _ h => h) (by kernel_rfl) ((Kept.refl [] W).drew) (fun h0 => ?_)
  generalize World.drew W = v0 at h0 ⊢
  refine t4 0 (.agg (fdC wd Z ao n cap (some M)).toArray) rfl (yieldsIf_load_mid (by rfl) _ _ rfl G 0 rfl (fdC wd Z ao n cap (some M)) _ (fun W h j u hu => Kept.cellOf h (hcF j u hu) (by simp)) Tryz.underlying109 rfl hilF) h0 ?_
  simp only [zz]
  refine t2 1 (.slice (some ⟨b, off, none⟩) rn rc) rfl h0 ?_ (fun w h => by have c := qc h cr; go_simp)
  simp only [zz]
  refine t1 2 (.int .i64 k) h0 ?_
  simp only [zz]
  refine t1 3 (.int .i64 k) h0 ?_
  simp only [zz]
  refine t1 4 (.pointer (some ⟨G, 1, none⟩)) h0 ?_
  simp only [zz]
  refine t2 5 (.int .i64 Z) rfl h0 ?_ (fun w h => by have c := qc h c1; go_simp)
  simp only [zz]
  refine t2 6 (.int .i64 m) rfl h0 ?_ (fun w hSw => by have c0 := hadd; go_simp)
  simp only [zz]
  refine t2 7 (.slice (some ⟨b, off + k, none⟩) Z (rc - k)) rfl h0 ?_ (fun w hSw => by have c0 := hcut w; go_simp)
  simp only [zz]
  refine t1 8 (.int .i64 (Rol.sum (wat ys Z k))) h0 ?_
  simp only [zz]
  refine rd 9 fun K hK => ?_
  go_simp
  refine (HLS.out v0 h0).mono ?_
  rintro e v1 ⟨rfl, hq⟩
  refine hK.out _ _ (h0.tr hq) (fun h1 => ?_)
  clear hK K
  try simp only [zz]
  clear hq h0
  refine t2 10 (.tuple #[.int .i64 (o.getD 0 : Nat), .bool o.isSome]) rfl h1 ?_ (fun w hSw => by have c0 := (show leastV o = .tuple #[.int .i64 (o.getD 0 : Nat), .bool o.isSome] from rfl); go_simp)
  simp only [zz]
  refine t1 11 (.int .i64 (o.getD 0 : Nat)) h1 ?_
  simp only [zz]
  refine t1 13 (.int .i64 (o.getD 0 : Nat)) h1 ?_
  simp only [zz]
  refine t1 12 (.bool o.isSome) h1 ?_
  simp only [zz]
  refine t1 14 (.bool o.isSome) h1 ?_
  simp only [zz]
  refine qd ?_
  have HKF := hide h1
  obtain ⟨_, _, ca1, fa1, cb1, fb1, _⟩ := HCE.out v1 (hI'.out.k.tr h1)
  clear h1 hcF c1 hadd hcut HLS hF cr ca fa cb fb
  cases o with
  | none =>
   simp only [Option.isSome_none, Option.getD_none]
   gi_wp2
   refine ⟨HKF.out, hI'.out.k.tr HKF.out, fun j hj => ?_⟩
   rw [List.length_append, List.length_singleton] at hj
   by_cases hjk : j < pre.length
   ·exact hI'.out.no j hjk
   ·obtain rfl : j = k := by have := HKP.out; omega
    exact HFT.out
  | some i =>
   have HNX : Hid (nextI wd Z L ys = (k, i)) := nextI_some (by have := HKL.out; omega) (fun j hj => hI'.out.no j (by have := HKP.out; omega)) HFT.out
   simp only [Option.isSome_some, Option.getD_some]
   gi_wp2
   refine ⟨Oth.set2 HKF.out _ _ _ _, ((hI'.out.k.tr HKF.out).mono (by simp)).setCell (by simp) _ |>.setCell (by simp) _, HAB.out.1, HAB.out.2, ?_, ?_⟩
   ·rw [HNX.out]
    exact (set2_cells (by omega) ca1 cb1).1
   ·rw [HNX.out]
    exact (set2_cells (by omega) ca1 cb1).2
 case done =>
  intro xs W hS hI hK
  obtain ⟨_, cr, ca, fa, cb, fb, hkw⟩ := HCE.out W hI.k
  have HNX : Hid (nextI wd Z L ys = (rn, 0)) := by
   have h := nextI_none (fun k hk => hI.no k (by have : xs.length = _ := hS; omega)) 
   rw [HIN.out.2.2.2.2.2.1] at h
   exact h
  gi_wp2
  have hX : NxS wd Z L ys (G + 1 + 1) (G + 1 + 1 + 1) wL ((W.setCell ⟨G + 1 + 1, 0, none⟩ (.int .i64 (rn : Nat))).setCell ⟨G + 1 + 1 + 1, 0, none⟩ (.int .i64 0)) :=
   ⟨(hI.k.mono (by simp)).setCell (by simp) _ |>.setCell (by simp) _, HAB.out.1, HAB.out.2, by rw [HNX.out]; exact (set2_cells (by omega) ca cb).1, by rw [HNX.out]; exact (set2_cells (by omega) ca cb).2⟩
  have hK2 := Oth.set2 (Kept.refl [] W) ⟨G + 1 + 1, 0, none⟩ ⟨G + 1 + 1 + 1, 0, none⟩ (.int .i64 (rn : Nat)) (.int .i64 0) _ _ hK rfl
  clear ca cb fa fb cr HNX hI hkw hK
  generalize (W.setCell ⟨G + 1 + 1, 0, none⟩ (.int .i64 (rn : Nat))).setCell ⟨G + 1 + 1 + 1, 0, none⟩ (.int .i64 0) = W2 at *
  refine ⟨by simp, .inl ⟨_, _, rfl, run_takeDeferred hK2, ?_⟩⟩
  have hX2 := hX.later (below_put (.deferred none) (Nat.le_refl _))
  have ca := hX2.a
  have cb := hX2.b
  exact ⟨_, results_ints rfl _ _ _ _ _ _ rfl rfl ca cb, rfl, HOUT.out _ hX2⟩
 case stop =>
  intro pre W hI hK
  gi_wp2
  refine ⟨by simp, .inl ⟨_, _, rfl, run_takeDeferred hK, ?_⟩⟩
  have hX2 := hI.later (below_put (.deferred none) (Nat.le_refl _))
  have ca := hX2.a
  have cb := hX2.b
  exact ⟨_, results_ints rfl _ _ _ _ _ _ rfl rfl ca cb, rfl, HOUT.out _ hX2⟩
end

section
open Dlt
namespace Dlt
theorem nextI_cases (wd : Int) (Z : Nat) (L : List Wk) (ys : List UInt8) : (nextI wd Z L ys = (ys.length, 0) ∧ ∀ k, k < ys.length + 1 - Z -> fitI wd Z L ys k = none) ∨ ∃ k i, nextI wd Z L ys = (k, i) ∧ k < ys.length + 1 - Z ∧ fitI wd Z L ys k = some i ∧ ∀ j, j < k -> fitI wd Z L ys j = none := by
 cases h : (List.range (ys.length + 1 - Z)).find? (fun k => (fitI wd Z L ys k).isSome) with
 | none =>
  left
  rw [List.find?_eq_none] at h
  have hn : ∀ k, k < ys.length + 1 - Z -> fitI wd Z L ys k = none := fun k hk => by
   have := h k (by simpa using hk)
   simpa using this
  exact ⟨nextI_none hn, hn⟩
 | some k =>
  right
  have hm := List.mem_of_find?_eq_some h
  have hp := List.find?_some h
  simp only [List.mem_range] at hm
  obtain ⟨i, hi⟩ := Option.isSome_iff_exists.1 hp
  refine ⟨k, i, ?_, hm, hi, ?_⟩
  ·unfold nextI
   rw [h]
   simp [hi]
  ·intro j hj
   have h2 := h
   rw [List.find?_range_eq_some] at h2
   have := h2.2.2 j hj
   simpa using this
theorem leastI_some {L : List Wk} {x : Int} {id : List UInt8} {i : Nat} (h : leastI L x id = some i) : i < L.length ∧ (L.getD i wk0).sum = x ∧ (L.getD i wk0).id = id := by
 have hm := List.mem_of_find?_eq_some h
 have hp := List.find?_some h
 simp only [Bool.and_eq_true, beq_iff_eq] at hp
 exact ⟨by simpa using hm, hp.1, hp.2⟩
theorem next_cnt {wd : Int} {Z : Nat} {L : List Wk} {ys : List UInt8} (hZ : 1 <= Z) (h : (nextI wd Z L ys).1 < ys.length) : (nextI wd Z L ys).2 < L.length ∧ 1 <= cntW wd Z (L.drop (nextI wd Z L ys).2) (ys.drop (nextI wd Z L ys).1) := by
 rcases nextI_cases wd Z L ys with ⟨e, _⟩ | ⟨k, i, e, hk, hi, _⟩
 ·rw [e] at h
  exact absurd h (Nat.lt_irrefl _)
 ·rw [e]
  obtain ⟨h1, h2, h3⟩ := leastI_some hi
  refine ⟨h1, ?_⟩
  have hd : L.drop i = L.getD i wk0 :: L.drop (i + 1) := by
   rw [List.drop_eq_getElem_cons h1]
   congr 1
   simp [List.getElem?_eq_getElem h1]
  show 1 <= cntW wd Z (L.drop i) (ys.drop k)
  rw [hd]
  unfold cntW
  rw [if_neg (by rw [List.length_drop]; omega), if_pos ?_]
  ·omega
  ·rw [wkEq_iff]
   exact Wk.ext' h2.symm h3.symm
def accL (acc : List Stp) (ys : List UInt8) (a : Nat) : List Stp := if 0 < a then acc ++ [.lit (ys.take a)] else acc
def insF (wd : Int) (Z : Nat) (L : List Wk) : Nat -> List Stp -> List UInt8 -> List Stp
 | 0, acc, _ => acc
 | k + 1, acc, ys =>
  if ys = [] ∨ 2048 < acc.length then acc
  else if ys.drop (nextI wd Z L ys).1 = [] then accL acc ys (nextI wd Z L ys).1
  else insF wd Z L k (accL acc ys (nextI wd Z L ys).1 ++ [.copy (nextI wd Z L ys).2 (cntW wd Z (L.drop (nextI wd Z L ys).2) (ys.drop (nextI wd Z L ys).1))]) ((ys.drop (nextI wd Z L ys).1).drop (cntW wd Z (L.drop (nextI wd Z L ys).2) (ys.drop (nextI wd Z L ys).1) * Z))
theorem ins_short {wd : Int} {Z : Nat} {L : List Wk} {ys : List UInt8} (hZ : 1 <= Z) (h : ys.drop (nextI wd Z L ys).1 ≠ []) : ((ys.drop (nextI wd Z L ys).1).drop (cntW wd Z (L.drop (nextI wd Z L ys).2) (ys.drop (nextI wd Z L ys).1) * Z)).length < ys.length := by
 have hlt : (nextI wd Z L ys).1 < ys.length := by
  apply Classical.byContradiction; intro hh
  exact h (List.drop_of_length_le (by omega))
 have hc := (next_cnt hZ hlt).2
 have : 1 * 1 <= cntW wd Z (L.drop (nextI wd Z L ys).2) (ys.drop (nextI wd Z L ys).1) * Z := Nat.mul_le_mul hc hZ
 rw [List.length_drop, List.length_drop]
 omega
theorem insF_fuel {wd : Int} {Z : Nat} {L : List Wk} (hZ : 1 <= Z) : ∀ (k k' : Nat) (acc : List Stp) (ys : List UInt8), ys.length <= k -> ys.length <= k' -> insF wd Z L k acc ys = insF wd Z L k' acc ys
 | 0, k', acc, ys, h, _ => by
  have : ys = [] := List.length_eq_zero_iff.1 (by omega)
  subst this
  cases k' with
  | zero => rfl
  | succ k' => simp [insF]
 | k + 1, 0, acc, ys, _, h => by
  have : ys = [] := List.length_eq_zero_iff.1 (by omega)
  subst this
  simp [insF]
 | k + 1, k' + 1, acc, ys, h1, h2 => by
  unfold insF
  split
  ·rfl
  ·split
   ·rfl
   ·next h =>
    have := ins_short (L := L) (wd := wd) hZ h
    exact insF_fuel hZ k k' _ _ (by omega) (by omega)
def ins (wd : Int) (Z : Nat) (L : List Wk) (acc : List Stp) (ys : List UInt8) : List Stp := insF wd Z L ys.length acc ys
theorem ins_stop {wd : Int} {Z : Nat} {L : List Wk} {acc : List Stp} {ys : List UInt8} (h : ys = [] ∨ 2048 < acc.length) : ins wd Z L acc ys = acc := by
 unfold ins
 cases hk : ys.length with
 | zero => rfl
 | succ k => unfold insF; rw [if_pos h]
theorem ins_end {wd : Int} {Z : Nat} {L : List Wk} {acc : List Stp} {ys : List UInt8} (h : ys ≠ []) (h2 : acc.length <= 2048) (h3 : ys.drop (nextI wd Z L ys).1 = []) : ins wd Z L acc ys = accL acc ys (nextI wd Z L ys).1 := by
 unfold ins
 cases hk : ys.length with
 | zero => exact absurd (List.length_eq_zero_iff.1 hk) h
 | succ k => unfold insF; rw [if_neg (by simp [h]; omega), if_pos h3]
theorem ins_go {wd : Int} {Z : Nat} {L : List Wk} {acc : List Stp} {ys : List UInt8} (hZ : 1 <= Z) (h : ys ≠ []) (h2 : acc.length <= 2048) (h3 : ys.drop (nextI wd Z L ys).1 ≠ []) :
  ins wd Z L acc ys = ins wd Z L (accL acc ys (nextI wd Z L ys).1 ++ [.copy (nextI wd Z L ys).2 (cntW wd Z (L.drop (nextI wd Z L ys).2) (ys.drop (nextI wd Z L ys).1))]) ((ys.drop (nextI wd Z L ys).1).drop (cntW wd Z (L.drop (nextI wd Z L ys).2) (ys.drop (nextI wd Z L ys).1) * Z)) := by
 have hs := ins_short (L := L) (wd := wd) hZ h3
 conv => lhs; unfold ins
 cases hk : ys.length with
 | zero => exact absurd (List.length_eq_zero_iff.1 hk) h
 | succ k =>
  conv => lhs; unfold insF
  rw [if_neg (by simp [h]; omega), if_neg h3]
  exact insF_fuel hZ _ _ _ _ (by omega) (Nat.le_refl _)
end Dlt
def StpV (w : World) : Stp -> Value -> Prop
 | .copy f c, v => v = .iface 116 (.agg #[.int .i64 (f : Nat), .int .i64 (c : Nat)])
 | .lit bs, v => ∃ ao n cap, v = .iface 113 (.slice ao n cap) ∧ bs.length = n ∧ n <= cap ∧ Sl w ao bs
theorem StpV.kept {w w' : World} {s : Stp} {v : Value} (h : StpV w s v) (hk : Kept [] w w') : StpV w' s v := by
 cases s with
 | copy f c => exact h
 | lit bs =>
  obtain ⟨ao, n, cap, e, h1, h2, h3⟩ := h
  exact ⟨ao, n, cap, e, h1, h2, h3.kept hk (by simp)⟩
theorem StpV.one {w : World} {s : Stp} {v : Value} (h : StpV w s v) : v.oneCell' = true := by
 cases s with
 | copy f c => rw [show v = _ from h]; rfl
 | lit bs => obtain ⟨ao, n, cap, e, _⟩ := h; rw [e]; rfl
structure InsAt (w0 w : World) (v : Value) (L : List Stp) : Prop where
 out : ∃ vals, w.ownsRow w0.heap.size 129 1 v L.length vals ∧ vals.length = L.length ∧ ∀ (i : Nat) s u, L[i]? = some s -> vals[i]? = some u -> StpV w0 s u
theorem InsAt.nil (w0 w : World) : InsAt w0 w (.slice none 0 0) [] := ⟨[], World.ownsRow_nil _ _ _ _, rfl, by simp⟩
theorem InsAt.kept {w0 w w' : World} {v : Value} {L : List Stp} (h : InsAt w0 w v L) (hk : Kept [] w w') : InsAt w0 w' v L := by
 obtain ⟨vals, h1, h2⟩ := h.out
 exact ⟨vals, own_same h1 (fun g hg => hk.block g (own_blk h1 hg).2.1 (by simp)), h2⟩
theorem InsAt.shape {w0 w : World} {v : Value} {L : List Stp} (h : InsAt w0 w v L) : ∃ ao cap, v = .slice ao L.length cap ∧ L.length <= cap := by
 obtain ⟨vals, h1, _⟩ := h.out
 obtain ⟨ao, cap, e, h3⟩ := own_shape h1
 exact ⟨ao, cap, e, h3⟩
theorem Tryz.infoIns8 : (Tryz.prog.info? 129).map (fun i => (i.zero, i.size, i.bytes)) = some (some .nilIface, 1, 16) := by kernel_rfl
theorem InsAt.add {w0 w : World} {v : Value} {L : List Stp} (h : InsAt w0 w v L) (hL : L.length <= 4096) (h0 : Kept [] w0 w) (W : World) (hW : Kept [] w W) (N : Nat) (s : Stp) (u : Value) (hu : StpV w0 s u) (hN : W.cell? ⟨N, 0, none⟩ = some u) :
  ∃ v' W2, (Builtin.append_ #[67, 67] 67 #[v, .slice (some ⟨N, 0, none⟩) 1 1]).run Tryz.prog W = .ok v' W2 ∧ InsAt w0 W2 v' (L ++ [s]) ∧ Kept v.ownBlock.toList W W2 ∧ Kept [] w0 W2 := by
 obtain ⟨vals, h1, h2, h3⟩ := (h.kept hW).out
 obtain ⟨i0, hi, hz0, hz1, hz2⟩ := info_parts Tryz.infoIns8
 obtain ⟨v', W2, hrun, h4, h5, _, h7⟩ := run_append_own_at (P := Tryz.prog) W w0.heap.size 67 67 129 i0 .nilIface 1 16 Tryz.underlying67 hi hz0 hz1 hz2 rfl (by decide) v _ _ h1 ⟨N, 0, none⟩ 1 1 [u] rfl (by
  intro j x hx
  cases j with
  | zero => simp only [List.getElem?_cons_zero, Option.some.injEq] at hx; subst hx; rw [Addr.add_mid]; exact hN
  | succ j => simp at hx) (by simp [hu.one]) (by unfold maxLen; omega) (by omega) (Nat.le_trans h0.size hW.size)
 have hk2 : Kept v.ownBlock.toList W W2 := (Kept.refl _ W).grown h5 (fun g hg _ => by rw [hg]; simp)
 refine ⟨v', W2, hrun, ⟨vals ++ [u], by rw [List.length_append]; exact h4, by simp [h2], ?_⟩, hk2, (h0.tr hW).trans hk2 (fun i hi hlt => ?_)⟩
 ·intro i s' u' hs' hu'
  by_cases hil : i < L.length
  ·rw [List.getElem?_append_left hil] at hs'
   rw [List.getElem?_append_left (by omega)] at hu'
   exact h3 i s' u' hs' hu'
  ·have hl := (List.getElem?_eq_some_iff.1 hs').1
   rw [List.length_append, List.length_singleton] at hl
   have e : i = L.length := by omega
   subst e
   rw [List.getElem?_append_right (Nat.le_refl _), Nat.sub_self] at hs'
   rw [List.getElem?_append_right (by omega), h2, Nat.sub_self] at hu'
   cases hs'
   cases hu'
   exact hu
 ·have hg : v.ownBlock = some i := by simpa using hi
  have := (own_blk h1 hg).1
  omega
end

end Go.Proofs.YtmklodligplbaabGreat
