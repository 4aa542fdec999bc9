import Derived.Test.YtmklodligplbaaaGreatD8bm
import Derived.Test.YtmklodligplbaaaGreatD8hm
import Derived.Defers
import Derived.Recover
import Derived.Laws.Pointers
open Go.RowKit
set_option linter.unusedVariables false
set_option linter.unusedSimpArgs false
set_option maxRecDepth 100000
set_option maxHeartbeats 51200000
namespace Go.Proofs.YtmklodligplbaaaGreat
section
namespace Dlt
inductive Stp where
 | copy (first count : Nat)
 | lit (bs : List UInt8)
def Stp.len (z : Nat) : Stp -> Nat
 | .copy _ c => c * z
 | .lit bs => bs.length
def encI : Stp -> List UInt8
 | .copy f c => Pure.fix 1 1 ++ (Pure.enc f ++ Pure.enc c)
 | .lit bs => Pure.fix 2 1 ++ (Pure.enc bs.length ++ bs)
def total (z : Nat) (L : List Stp) : Nat := (L.map (Stp.len z)).sum
theorem total_snoc (z : Nat) (L : List Stp) (i : Stp) : total z (L ++ [i]) = total z L + i.len z := by simp [total]
structure Dta where
 width : Nat
 size : Nat
 blen : Nat
 bid : List UInt8
 tlen : Nat
 tid : List UInt8
 steps : List Stp
 hb : bid.length = 32
 ht : tid.length = 32
theorem Dta.ext' {a b : Dta} (h1 : a.width = b.width) (h2 : a.size = b.size) (h3 : a.blen = b.blen) (h4 : a.bid = b.bid) (h5 : a.tlen = b.tlen) (h6 : a.tid = b.tid) (h7 : a.steps = b.steps) : a = b := by
 cases a; cases b; simp only at h1 h2 h3 h4 h5 h6 h7; subst h1; subst h2; subst h3; subst h4; subst h5; subst h6; subst h7; rfl
def headD (d : Dta) : List UInt8 :=
 Pure.fix 68 1 ++ (Pure.enc d.width ++ (Pure.enc d.size ++ (Pure.enc d.blen ++ (d.bid.take d.width ++ (Pure.enc d.tlen ++ (d.tid.take d.width ++ Pure.enc d.steps.length))))))
def bodyD (d : Dta) : List UInt8 := headD d ++ d.steps.flatMap encI
def encD (d : Dta) : List UInt8 := sealed (bodyD d)
def okI (n : Nat) : Stp -> Prop
 | .copy f c => 1 <= c ∧ f + c <= n
 | .lit bs => bs ≠ [] ∧ bs.length <= 131072
structure OkD (d : Dta) : Prop where
 w1 : 1 <= d.width
 w2 : d.width <= 32
 z1 : 16 <= d.size
 z2 : d.size <= 4096
 b2 : d.blen <= 131072
 t2 : d.tlen <= 131072
 nb : nought d.width d.bid = true
 nt : nought d.width d.tid = true
 few : d.steps.length <= 2048
 ins : ∀ i, i ∈ d.steps -> okI (d.blen / d.size) i
 sum : total d.size d.steps = d.tlen
def rdI (xs : List UInt8) (n : Nat) (s : Rs) : Option (Stp × Rs) :=
 if (stFixed xs s 1).1 = 1 then
  if within (stNumber xs (stFixed xs s 1).2).1 0 n = false then none
  else if within (stNumber xs (stNumber xs (stFixed xs s 1).2).2).1 1 ((n : Int) - (stNumber xs (stFixed xs s 1).2).1) = false then none
  else some (.copy (stNumber xs (stFixed xs s 1).2).1.toNat (stNumber xs (stNumber xs (stFixed xs s 1).2).2).1.toNat, (stNumber xs (stNumber xs (stFixed xs s 1).2).2).2)
 else if (stFixed xs s 1).1 = 2 then
  if (stText xs (stFixed xs s 1).2 131072).1 = [] then none
  else some (.lit (stText xs (stFixed xs s 1).2 131072).1, (stText xs (stFixed xs s 1).2 131072).2)
 else none
def rdIs (xs : List UInt8) (n : Nat) (s : Rs) : Nat -> Option (List Stp × Rs)
 | 0 => some ([], s)
 | k + 1 => (rdIs xs n s k).bind fun p => (rdI xs n p.2).map fun q => (p.1 ++ [q.1], q.2)
theorem rdIs_len {xs : List UInt8} {n : Nat} {s : Rs} : ∀ {k : Nat} {p : List Stp × Rs}, rdIs xs n s k = some p -> p.1.length = k
 | 0, p, h => by cases h; rfl
 | k + 1, p, h => by
  simp only [rdIs] at h
  cases hr : rdIs xs n s k with
  | none => rw [hr] at h; cases h
  | some q =>
   rw [hr, Option.bind_some] at h
   cases hi : rdI xs n q.2 with
   | none => rw [hi] at h; cases h
   | some r =>
    rw [hi, Option.map_some] at h
    injection h with h; subst h
    simp [rdIs_len hr]
theorem fix1_lt {xs : List UInt8} {s : Rs} {v : Int} (h : (stFixed xs s 1).1 = v) (hv : v ≠ 0) : s.e = 0 ∧ (stFixed xs s 1).2.e = 0 := by
 constructor
 ·apply Classical.byContradiction; intro he
  rw [fix_bad he] at h
  exact hv h.symm
 ·apply Classical.byContradiction; intro he
  apply hv
  rw [<-h]
  unfold stFixed at he ⊢
  split at he
  ·split at he
   ·rw [if_pos (by assumption), if_pos (by assumption)]
   ·split at he
    ·rw [if_pos (by assumption), if_neg (by assumption), if_pos (by assumption)]
    ·exact absurd rfl he
  ·rename_i hs
   rw [if_neg hs]
theorem num_e {xs : List UInt8} {s : Rs} (h : (stNumber xs s).1 ≠ 0) : (stNumber xs s).2.e = 0 := by
 apply Classical.byContradiction; intro he
 apply h
 unfold stNumber at he ⊢
 split at he
 ·split at he
  ·exact absurd rfl he
  ·rw [if_pos (by assumption), if_neg (by assumption)]
 ·rename_i hs
  rw [if_neg hs]
theorem num_e0 {xs : List UInt8} {s : Rs} (h : (stNumber xs s).2.e = 0) : s.e = 0 := by
 apply Classical.byContradiction; intro he
 rw [num_bad he] at h; exact he h
theorem raw_e0 {xs : List UInt8} {s : Rs} {n : Int} (h : (stRaw xs s n).2.e = 0) : s.e = 0 := by
 apply Classical.byContradiction; intro he
 rw [raw_bad he] at h; exact he h
theorem text_e {xs : List UInt8} {s : Rs} {m : Int} (h : (stText xs s m).1 ≠ []) : (stText xs s m).2.e = 0 := by
 apply Classical.byContradiction; intro he
 apply h
 unfold stText at he ⊢
 split at he
 ·split at he
  ·rw [if_pos (by assumption), if_pos (by assumption)]
  ·split at he
   ·split at he
    ·rw [if_pos (by assumption), if_neg (by assumption), if_pos (by assumption), if_pos (by assumption)]
    ·split at he
     ·rw [if_pos (by assumption), if_neg (by assumption), if_pos (by assumption), if_neg (by assumption), if_pos (by assumption)]
     ·exact absurd rfl he
   ·rw [if_pos (by assumption), if_neg (by assumption), if_neg (by assumption)]
 ·rename_i hs
  rw [if_neg hs]
theorem rdI_bwd {xs : List UInt8} {n : Nat} {s : Rs} {ys zs : List UInt8} (h : At xs s ys zs) {i : Stp} {s' : Rs} (hr : rdI xs n s = some (i, s')) :
  okI n i ∧ ∃ zs', At xs s' (ys ++ encI i) zs' := by
 unfold rdI at hr
 split at hr
 ·rename_i hk
  split at hr
  ·cases hr
  ·rename_i hf
   split at hr
   ·cases hr
   ·rename_i hc
    rw [Bool.not_eq_false, within_iff] at hf hc
    injection hr with hr; injection hr with h1 h2; subst h1; subst h2
    obtain ⟨m, z1, hm, _, _, a1⟩ := fix_bwd h (n := 1) (by omega) (by omega) (fix1_lt hk (by omega)).2
    have hm1 : m = 1 := by
     have : (stFixed xs s 1).1 = (m : Int) := hm
     omega
    subst hm1
    have e3 := num_e (xs := xs) (s := (stNumber xs (stFixed xs s 1).2).2) (by omega)
    have e2 := num_e0 e3
    obtain ⟨f, z2, hf1, hf2, _, a2⟩ := num_bwd a1 e2
    obtain ⟨c, z3, hc1, hc2, _, a3⟩ := num_bwd a2 e3
    have hf1 : (stNumber xs (stFixed xs s 1).2).1 = (f : Int) := hf1
    have hc1 : (stNumber xs (stNumber xs (stFixed xs s 1).2).2).1 = (c : Int) := hc1
    rw [hf1] at hf hc
    rw [hc1] at hc
    refine ⟨?_, z3, ?_⟩
    ·show 1 <= _ ∧ _ <= n
     rw [hf1, hc1, Int.toNat_natCast, Int.toNat_natCast]
     omega
    ·rw [encI, hf1, hc1, Int.toNat_natCast, Int.toNat_natCast]
     rw [<-List.append_assoc, <-List.append_assoc]
     exact a3
 ·split at hr
  ·rename_i hk
   split at hr
   ·cases hr
   ·rename_i ht
    injection hr with hr; injection hr with h1 h2; subst h1; subst h2
    obtain ⟨m, z1, hm, _, _, a1⟩ := fix_bwd h (n := 1) (by omega) (by omega) (fix1_lt hk (by omega)).2
    have hm1 : m = 2 := by
     have : (stFixed xs s 1).1 = (m : Int) := hm
     omega
    subst hm1
    obtain ⟨z2, g1, g2, _, a2⟩ := text_bwd (m := 131072) a1 (text_e ht)
    refine ⟨⟨ht, g1⟩, z2, ?_⟩
    rw [encI, <-List.append_assoc]
    exact a2
  ·cases hr
theorem rdIs_bwd {xs : List UInt8} {n : Nat} {s : Rs} {ys zs : List UInt8} (h : At xs s ys zs) :
  ∀ {k : Nat} {p : List Stp × Rs}, rdIs xs n s k = some p -> (∀ i, i ∈ p.1 -> okI n i) ∧ ∃ zs', At xs p.2 (ys ++ p.1.flatMap encI) zs'
 | 0, p, hr => by cases hr; exact ⟨by simp, zs, by simpa using h⟩
 | k + 1, p, hr => by
  simp only [rdIs] at hr
  cases hq : rdIs xs n s k with
  | none => rw [hq] at hr; cases hr
  | some q =>
   rw [hq, Option.bind_some] at hr
   obtain ⟨h1, z1, h2⟩ := rdIs_bwd h hq
   cases hi : rdI xs n q.2 with
   | none => rw [hi] at hr; cases hr
   | some r =>
    rw [hi, Option.map_some] at hr
    injection hr with hr; subst hr
    obtain ⟨g1, z2, g2⟩ := rdI_bwd h2 (i := r.1) (s' := r.2) hi
    refine ⟨fun i hm => ?_, z2, ?_⟩
    ·simp only [List.mem_append, List.mem_singleton] at hm
     rcases hm with hm | rfl
     ·exact h1 i hm
     ·exact g1
    ·simp only [List.flatMap_append, List.flatMap_cons, List.flatMap_nil, List.append_nil]
     rw [<-List.append_assoc]; exact g2
def s5 (xs : List UInt8) : Rs := (stNumber xs (sB xs)).2
def nT (xs : List UInt8) : Int := (stNumber xs (sB xs)).1
def s6 (xs : List UInt8) : Rs := (stRaw xs (s5 xs) (nW xs)).2
def idT (xs : List UInt8) : List UInt8 := pad (stRaw xs (s5 xs) (nW xs)).1
def s7 (xs : List UInt8) : Rs := (stNumber xs (s6 xs)).2
def nI (xs : List UInt8) : Int := (stNumber xs (s6 xs)).1
def cntB (xs : List UInt8) : Nat := (nL xs / nZ xs).toNat
def headOk (xs : List UInt8) : Bool :=
 decide (xs.length <= 131072) && decide (mk xs = 68) && isW (nW xs) && isZ (nZ xs) && within (nL xs) 0 131072 && within (nT xs) 0 131072 && within (nI xs) 0 2048
def decD (xs : List UInt8) : Option Dta :=
 if headOk xs = false then none
 else match rdIs xs (cntB xs) (s7 xs) (nI xs).toNat with
  | none => none
  | some p =>
   if (decide ((total (nZ xs).toNat p.1 : Int) = nT xs) && endOk xs p.2) = false then none
   else some ⟨(nW xs).toNat, (nZ xs).toNat, (nL xs).toNat, idB xs, (nT xs).toNat, idT xs, p.1, pad_len _, pad_len _⟩
theorem decD_some {xs : List UInt8} {d : Dta} (h : decD xs = some d) : OkD d ∧ xs = encD d ∧ xs.length <= 131072 := by
 unfold decD at h
 split at h; · cases h
 rename_i h0
 split at h; · cases h
 rename_i p hp
 split at h; · cases h
 rename_i he
 injection h with h
 rw [Bool.not_eq_false] at h0 he
 simp only [headOk, Bool.and_eq_true, decide_eq_true_eq, isW, isZ, within_iff] at h0
 rw [Bool.and_eq_true, decide_eq_true_eq] at he
 obtain ⟨⟨⟨⟨⟨⟨h1, h2⟩, h3⟩, h4⟩, h5⟩, h6⟩, h7⟩ := h0
 have eq := endOk_e he.2
 have e7 : (s7 xs).e = 0 := by
  have : ∀ {k : Nat} {q : List Stp × Rs}, rdIs xs (cntB xs) (s7 xs) k = some q -> q.2.e = 0 -> (s7 xs).e = 0 := by
   intro k
   induction k with
   | zero => intro q hq h0; cases hq; exact h0
   | succ k ih =>
    intro q hq h0
    simp only [rdIs] at hq
    cases hr : rdIs xs (cntB xs) (s7 xs) k with
    | none => rw [hr] at hq; cases hq
    | some r =>
     rw [hr, Option.bind_some] at hq
     cases hi : rdI xs (cntB xs) r.2 with
     | none => rw [hi] at hq; cases hq
     | some t =>
      refine ih hr ?_
      unfold rdI at hi
      split at hi
      ·rename_i hk; exact (fix1_lt hk (by omega)).1
      ·split at hi
       ·rename_i hk; exact (fix1_lt hk (by omega)).1
       ·cases hi
  exact this hp eq
 have e6 : (s6 xs).e = 0 := num_e0 e7
 have e5 : (s5 xs).e = 0 := raw_e0 e6
 have eB : (sB xs).e = 0 := num_e0 e5
 have e4 : (s4 xs).e = 0 := raw_e0 eB
 have e3 : (s3 xs).e = 0 := num_e0 e4
 have e2 : (s2 xs).e = 0 := num_e0 e3
 have e1 : (s1 xs).e = 0 := num_e0 e2
 obtain ⟨m, z1, hm, _, _, a1⟩ := fix_bwd (At.start xs) (n := 1) (by omega) (by omega) e1
 have hm2 : m = 68 := by
  have : mk xs = (m : Int) := hm
  omega
 subst hm2
 obtain ⟨w, z2, hw, hw2, _, a2⟩ := num_bwd (s := s1 xs) a1 e2
 obtain ⟨z, z3, hz, hz2, _, a3⟩ := num_bwd (s := s2 xs) a2 e3
 obtain ⟨l, z4, hl, hl2, _, a4⟩ := num_bwd (s := s3 xs) a3 e4
 have hw : nW xs = (w : Int) := hw
 have hz : nZ xs = (z : Int) := hz
 have hl : nL xs = (l : Int) := hl
 have hwn : w <= 32 := by omega
 have hsB : sB xs = (stRaw xs (s4 xs) (w : Nat)).2 := by unfold sB; rw [hw]
 obtain ⟨z5, hr, _, a5⟩ := raw_bwd (s := s4 xs) (n := w) a4 (by rw [<-hsB]; exact eB)
 rw [<-hsB] at a5
 obtain ⟨t, z6, ht, ht2, _, a6⟩ := num_bwd (s := sB xs) a5 e5
 have ht : nT xs = (t : Int) := ht
 have hs6 : s6 xs = (stRaw xs (s5 xs) (w : Nat)).2 := by unfold s6; rw [hw]
 obtain ⟨z7, hr2, _, a7⟩ := raw_bwd (s := s5 xs) (n := w) a6 (by rw [<-hs6]; exact e6)
 rw [<-hs6] at a7
 obtain ⟨n, z8, hn, hn2, _, a8⟩ := num_bwd (s := s6 xs) a7 e7
 have hn : nI xs = (n : Int) := hn
 obtain ⟨hok, z9, a9⟩ := rdIs_bwd (s := s7 xs) a8 hp
 have hx := end_bwd a9 he.2
 have hlen := rdIs_len hp
 rw [hn, Int.toNat_natCast] at hlen
 have hcb : cntB xs = l / z := by
  unfold cntB
  rw [hl, hz, <-Int.natCast_ediv, Int.toNat_natCast]
 have eB1 : idB xs = pad (stRaw xs (s4 xs) (w : Nat)).1 := by unfold idB; rw [hw]
 have eT1 : idT xs = pad (stRaw xs (s5 xs) (w : Nat)).1 := by unfold idT; rw [hw]
 have k1 : (nW xs).toNat = w := by omega
 have k2 : (nZ xs).toNat = z := by omega
 have k3 : (nL xs).toNat = l := by omega
 have k4 : (nT xs).toNat = t := by omega
 have d1 : d.width = w := by rw [<-h]; exact k1
 have d2 : d.size = z := by rw [<-h]; exact k2
 have d3 : d.blen = l := by rw [<-h]; exact k3
 have d4 : d.tlen = t := by rw [<-h]; exact k4
 have d5 : d.bid = pad (stRaw xs (s4 xs) (w : Nat)).1 := by rw [<-h]; exact eB1
 have d6 : d.tid = pad (stRaw xs (s5 xs) (w : Nat)).1 := by rw [<-h]; exact eT1
 have d7 : d.steps = p.1 := by rw [<-h]
 have hbody : bodyD d = [] ++ Pure.fix 68 1 ++ Pure.enc w ++ Pure.enc z ++ Pure.enc l ++ (stRaw xs (s4 xs) (w : Nat)).1 ++ Pure.enc t ++ (stRaw xs (s5 xs) (w : Nat)).1 ++ Pure.enc n ++ p.1.flatMap encI := by
  unfold bodyD headD
  rw [d1, d2, d3, d4, d5, d6, d7, pad_take hr hwn, pad_take hr2 hwn, hlen]
  simp only [List.append_assoc, List.nil_append]
 refine ⟨⟨by omega, by omega, by omega, by omega, by omega, by omega, ?_, ?_, ?_, ?_, ?_⟩, ?_, h1⟩
 ·rw [d1, d5]; exact pad_nought hr hwn
 ·rw [d1, d6]; exact pad_nought hr2 hwn
 ·rw [d7, hlen]; omega
 ·rw [d7, d2, d3, <-hcb]; exact hok
 ·rw [d7, d2, d4]
  have := he.1
  rw [k2, ht] at this
  omega
 ·rw [encD, hbody]; exact hx
def doI (z : Nat) (b : List UInt8) : Stp -> List UInt8
 | .copy f c => (b.drop (f * z)).take (c * z)
 | .lit bs => bs
def doIs (z : Nat) (b : List UInt8) (L : List Stp) : List UInt8 := L.flatMap (doI z b)
theorem doIs_snoc (z : Nat) (b : List UInt8) (L : List Stp) (i : Stp) : doIs z b (L ++ [i]) = doIs z b L ++ doI z b i := by simp [doIs]
def applyE (b xs : List UInt8) : Int :=
 if 131072 < b.length then 2
 else match decD xs with
  | none => 180
  | some d =>
   if b.length = d.blen ∧ Sha.ident d.width b = d.bid then
    if Sha.ident d.width (doIs d.size b d.steps) = d.tid then 0 else 182
   else 181
def applyB (b xs : List UInt8) : List UInt8 :=
 if applyE b xs = 0 then
  match decD xs with
  | none => []
  | some d => doIs d.size b d.steps
 else []
end Dlt
end

section
open Dlt
theorem wp_copy_run8 (w : World) {o : Oper} {a : Act} {K : Act -> World -> Prop} {Q : Exit -> Act -> World -> Prop} (d s : Operand) (t t' : TypeId)
  (ho : o.op = .call { callee := .builtin .copy, args := #[d, s], argTypes := #[t, t'] }) (v u : Value) (hd : a.eval d = v) (hs : a.eval s = u) {v' : Value} {w' : World}
  (hr : (Builtin.copy_ #[t, t'] o.type #[v, u]).run Tryz.prog w = .ok v' w') (h : K (a.put o.dst v') w') : o.wp Tryz.prog a w K Q := by
 unfold Oper.wp execOp
 simp only [ho, resolve, invoke, builtin, Sem.run_bind, Sem.run_pure, Result.andThen_ok, List.map_toArray, List.map_cons, List.map_nil, hd, hs, hr]
 exact h
abbrev gaveUp8 : Ending := .panicked [{ v := .iface 30 (.int .i64 180), recovered := false }]
abbrev stV (b : Nat) : Value := .agg #[.pointer (some ⟨b, 0, none⟩)]
abbrev stC (b : Nat) : List Value := [.pointer (some ⟨b, 0, none⟩)]
theorem Tryz.infoStrict : (Tryz.prog.info? 88).map (·.size) = some 1 := by kernel_rfl
theorem giveUp_ok (w : World) : Calls Tryz.prog 86 #[] w fun e w' => e = gaveUp8 ∧ w' = w := by
 go_enter Tryz.func86, Tryz.ntmps86
 go_wp2
 exact ⟨rfl, rfl, rfl⟩
theorem must_yes (b : Nat) (w : World) : Calls Tryz.prog 52 #[stV b, .bool true] w fun e w' => e = .returned (.tuple #[]) ∧ Kept [] w w' := by
 have hK := ka w (.cells (stC b).toArray 88)
 go_enter Tryz.func52, Tryz.ntmps52
 go_wp2
 go_end0
 exact ⟨rfl, hK⟩
theorem must_no (b : Nat) (w : World) : Calls Tryz.prog 52 #[stV b, .bool false] w fun e w' => e = gaveUp8 ∧ Kept [] w w' := by
 have hK := ka w (.cells (stC b).toArray 88)
 have hg := giveUp_ok (w.alloc (.cells (stC b).toArray 88))
 go_enter Tryz.func52, Tryz.ntmps52
 go_wp2_with (go_at_call 86; refine hg.mono ?_; rintro r w' ⟨rfl, hw⟩; obtain rfl := hw.symm)
 exact ⟨rfl, rfl, hK⟩
structure Sx (w : World) (g b : Nat) : Prop where
 row : w.heap[g]? = some (.cells (stC b).toArray 88 (0, 0))
theorem Sx.kept {l : List Nat} {w w' : World} {g b : Nat} (h : Sx w g b) (hk : Kept l w w') (hn : g ∉ l) : Sx w' g b := ⟨(hk.block g (gs h.row).1 hn).trans h.row⟩
theorem Sx.new (w : World) (b : Nat) : Sx (w.alloc (.cells (stC b).toArray 88)) w.heap.size b := ⟨heap_new w _⟩
theorem Sx.cell {w : World} {g b : Nat} (h : Sx w g b) : w.cell? ⟨g, 0, none⟩ = some (.pointer (some ⟨b, 0, none⟩)) := by rw [cell_of_row _ _ _ _ _ _ h.row]; rfl
theorem Sx.range {w : World} {g b : Nat} (h : Sx w g b) : w.rangeAt g 0 (stC b) := row_rangeK h.row
theorem Sx.lt {w : World} {g b : Nat} (h : Sx w g b) : g < w.heap.size := (gs h.row).1
theorem RdS.blk {w : World} {b : Nat} {ao : Option Addr} {cap : Nat} {xs : List UInt8} {s : Rs} (h : RdS w b ao cap xs s) (hx : xs ≠ []) : ∀ a, ao = some a -> a.block < w.heap.size := by
 obtain ⟨a0, _, hr⟩ := h
 intro a ha
 obtain ⟨g, off, e, hg, _⟩ := hr.sl.open hx
 rw [ha] at e
 cases e
 exact hg
theorem RdS.apart {w : World} {b : Nat} {ao : Option Addr} {cap : Nat} {xs : List UInt8} {s : Rs} (h : RdS w b ao cap xs s) : ∀ a, ao = some a -> a.block ≠ b := by
 obtain ⟨a0, _, hr⟩ := h
 exact hr.apart
theorem RdS.later {w w' : World} {b : Nat} {ao : Option Addr} {cap : Nat} {xs : List UInt8} {s : Rs} (h : RdS w b ao cap xs s) (hk : Kept [] w w') : RdS w' b ao cap xs s := h.kept hk (by simp) (by simp)
theorem number_yes (lo hi : Int) {w : World} {b : Nat} {ao : Option Addr} {cap : Nat} {xs : List UInt8} {s : Rs} (h : RdS w b ao cap xs s) (hw : Dlt.within (stNumber xs s).1 lo hi = true) :
  Calls Tryz.prog 81 #[stV b, .int .i64 lo, .int .i64 hi] w fun e w' => e = .returned (.int .i64 (stNumber xs s).1) ∧ RdS w' b ao cap xs (stNumber xs s).2 ∧ Kept [b] w w' := by
 have hK := ka w (.cells (stC b).toArray 88)
 have hX := Sx.new w b
 have hR := h.later hK
 have hnu := rnumber_st hR
 have HK := hide hK
 have hlt := h.lt
 have hgb : w.heap.size ≠ b := by omega
 have cb := hX.cell
 obtain ⟨v, hv⟩ := nm ((stNumber xs s).1)
 rw [hv] at hw hnu
 have HW := hide hw
 have HV := hide hv
 clear hv hw h hK hR hlt
 obtain ⟨G, hG⟩ := nm (w.heap.size)
 rw [hG] at hX hgb cb
 have HX := hide hX
 go_enter Tryz.func81, Tryz.ntmps81
 go_upto_region 1 with (fail)
 have HG := hide hG
 clear hG hX
 generalize w.alloc (.cells (stC b).toArray 88) = w1 at *
 go_upto_region 2 with (go_at_call 105; refine hnu.mono ?_; rintro r w2 ⟨rfl, hk2, hr2⟩; have H2 := hide (ai hr2 hk2); clear hnu hk2 hr2)
 have HX2 := hide (HX.out.kept H2.out.2 (by simpa using hgb))
 clear HX cb
 refine th w2 fun h0 => ?_
 generalize World.drew w2 = v0 at h0  ⊢
 refine t4 0 (stV b) rfl (yieldsIf_load_mid (by rfl) _ _ rfl G 0 rfl (stC b) _ (fun W h => (HX2.out.kept h (by simp)).range) Tryz.underlying88 rfl Tryz.infoStrict) h0 ?_
 try simp only [zz]
 refine t1 1 (.int .i64 v) h0 ?_
 try simp only [zz]
 refine t1 2 (.int .i64 lo) h0 ?_
 try simp only [zz]
 refine t1 3 (.int .i64 hi) h0 ?_
 try simp only [zz]
 refine rd 4 fun K hK => ?_
 go_simp
 refine (within_ok v lo hi v0).mono ?_
 rintro e v1 ⟨rfl, hq⟩
 rw [HW.out]
 subst hq
 refine hK.out _ _ (h0) (fun h1 => ?_)
 clear hK K
 try simp only [zz]
 clear h0
 refine rd 5 fun K hK => ?_
 go_simp
 refine (must_yes b v1).mono ?_
 rintro e v2 ⟨rfl, hq⟩
 refine hK.out _ _ (h1.tr hq) (fun h2 => ?_)
 clear hK K
 try simp only [zz]
 clear hq h1
 refine dn ?_
 have HF := hide h2
 clear h2 HX2
 go_wp2
 go_ret
 have k1 : Kept [b] w w2 := (HK.out.mono (by simp)).tr H2.out.2
 exact ⟨by rw [HV.out]; rfl, H2.out.1.later HF.out, k1.tr HF.out⟩
theorem number_no (lo hi : Int) {w : World} {b : Nat} {ao : Option Addr} {cap : Nat} {xs : List UInt8} {s : Rs} (h : RdS w b ao cap xs s) (hw : Dlt.within (stNumber xs s).1 lo hi = false) :
  Calls Tryz.prog 81 #[stV b, .int .i64 lo, .int .i64 hi] w fun e w' => e = gaveUp8 ∧ Kept [b] w w' := by
 have hK := ka w (.cells (stC b).toArray 88)
 have hX := Sx.new w b
 have hR := h.later hK
 have hnu := rnumber_st hR
 have HK := hide hK
 have hlt := h.lt
 have hgb : w.heap.size ≠ b := by omega
 have cb := hX.cell
 obtain ⟨v, hv⟩ := nm ((stNumber xs s).1)
 rw [hv] at hw hnu
 have HW := hide hw
 have HV := hide hv
 clear hv hw h hK hR hlt
 obtain ⟨G, hG⟩ := nm (w.heap.size)
 rw [hG] at hX hgb cb
 have HX := hide hX
 go_enter Tryz.func81, Tryz.ntmps81
 go_upto_region 1 with (fail)
 have HG := hide hG
 clear hG hX
 generalize w.alloc (.cells (stC b).toArray 88) = w1 at *
 go_upto_region 2 with (go_at_call 105; refine hnu.mono ?_; rintro r w2 ⟨rfl, hk2, hr2⟩; have H2 := hide (ai hr2 hk2); clear hnu hk2 hr2)
 have HX2 := hide (HX.out.kept H2.out.2 (by simpa using hgb))
 clear HX cb
 refine th w2 fun h0 => ?_
 generalize World.drew w2 = v0 at h0  ⊢
 refine t4 0 (stV b) rfl (yieldsIf_load_mid (by rfl) _ _ rfl G 0 rfl (stC b) _ (fun W h => (HX2.out.kept h (by simp)).range) Tryz.underlying88 rfl Tryz.infoStrict) h0 ?_
 try simp only [zz]
 refine t1 1 (.int .i64 v) h0 ?_
 try simp only [zz]
 refine t1 2 (.int .i64 lo) h0 ?_
 try simp only [zz]
 refine t1 3 (.int .i64 hi) h0 ?_
 try simp only [zz]
 refine rd 4 fun K hK => ?_
 go_simp
 refine (within_ok v lo hi v0).mono ?_
 rintro e v1 ⟨rfl, hq⟩
 rw [HW.out]
 subst hq
 refine hK.out _ _ (h0) (fun h1 => ?_)
 clear hK K
 try simp only [zz]
 clear h0
 refine rd 5 fun K hK => ?_
 go_simp
 refine (must_no b v1).mono ?_
 rintro e v2 ⟨rfl, hq⟩
 exact ⟨rfl, rfl, (((HK.out.mono (by simp)).tr H2.out.2).tr h1).tr hq⟩
end

end Go.Proofs.YtmklodligplbaaaGreat
