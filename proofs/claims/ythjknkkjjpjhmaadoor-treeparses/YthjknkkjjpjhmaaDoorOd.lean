/-
  Contracts: freightlaw7.marked, copied, whole. (Written by tools/od.py.)
-/
import Derived.Test.YthjknkkjjpjhmaaDoorOa
import Derived.Laws.MakeOwn
namespace Go.Proofs.YthjknkkjjpjhmaaDoor
open Go.RowKit
set_option linter.unusedVariables false
set_option linter.unusedSimpArgs false

/-- The mark behind the end of entries. -/
def mark (i : Nat) : Ent := ⟨[109, 97, 114, 107], -7 - (i : Int), UInt8.ofNat i :: List.replicate 31 0⟩
def marks : List Ent := (List.range 40).map mark
theorem mark_ok {i : Nat} (h : i < 40) : EntOk (mark i) := by
  refine ⟨by simp [mark], by simp [mark], ?_⟩
  simp [mark, Lit.wf, IntKind.min, IntKind.max, IntKind.bits, IntKind.signed]
  omega
theorem marks_ok : ∀ e ∈ marks, EntOk e := fun e he => by
  simp only [marks, List.mem_map, List.mem_range] at he
  obtain ⟨i, hi, rfl⟩ := he
  exact mark_ok hi
theorem builtMID (v : Int) : Tryd.prog.built 35 [(0, .int .u8 v)] = some (Value.int .u8 v :: bys (List.replicate 31 0)).toArray := by kernel_rfl
theorem builtMark (v k : Int) : Tryd.prog.built 37 [(0, .string ⟨#[109, 97, 114, 107]⟩), (1, .int .i64 k), (2, .agg (Value.int .u8 v :: bys (List.replicate 31 0)).toArray)] = some (Value.string ⟨#[109, 97, 114, 107]⟩ :: Value.int .i64 k :: Value.int .u8 v :: bys (List.replicate 31 0)).toArray := by kernel_rfl
theorem wpList_build_at {P : Program} {ops : Array Oper} {rest : List Oper} {o : Oper} {a : Act} {w : World} {Q : Exit → Act → World → Prop} (hg : o.guard = none) (t : TypeId) (parts : List (Nat × Operand)) (ho : o.op = .build t parts.toArray) (vs : List (Nat × Value)) (hv : (parts.map fun x => (x.1, a.eval x.2)) = vs)
    (cells : Array Value) (hc : P.built t vs = some cells) (h : wpList P ops Q rest (a.put o.dst (.agg cells)) w) : wpList P ops Q (o :: rest) a w :=
  wpList_plain hg fun _ hK => wp_build_at t parts ho cells (by rw [hv]; exact hc) (hK _ _ h)
set_option maxHeartbeats 1600000 in
set_option maxRecDepth 100000 in
theorem marked_ok (i : Nat) (hi : i < 40) (w : World) :
    Calls Tryd.prog 26 #[.int .i64 i] w fun r w' => r = .returned (.agg (mark i).cells.toArray) ∧ Below w.heap.size w w' := by
  obtain ⟨x, hx⟩ : ∃ x : UInt8, x.toNat = i := ⟨UInt8.ofNat i, by simp [UInt8.toNat_ofNat', Nat.mod_eq_of_lt (show i < 256 by omega)]⟩
  have hxe : UInt8.ofNat i = x := by rw [← hx]; simp
  have hok := mark_ok hi
  obtain ⟨e, he⟩ : ∃ e, mark i = e := ⟨_, rfl⟩
  rw [he] at hok
  have he2 : e = ⟨[109, 97, 114, 107], -7 - (x.toNat : Int), x :: List.replicate 31 0⟩ := by rw [← he, mark, hxe, hx]
  rw [he]
  subst hx
  have hwk : IntKind.u8.wrap ((x.toNat : Nat) : Int) = x.toNat := by rw [IntKind.wrap_u8]; omega
  have hz := Tryd.zeroEntry
  have hnz := new_zero w
  have hia : (Tryd.prog.info? 37).map (·.size) = some e.cells.toArray.size := by rw [ent_size hok]; exact Tryd.infoEntry
  have hzs := zero_size hok
  have hal := ent_all e
  have HB : Hid (Below w.heap.size w ((w.alloc (.cells zeroE 37)).setRow w.heap.size e.cells.toArray)) := withEnt_below w e
  have HR : Hid (((w.alloc (.cells zeroE 37)).setRow w.heap.size e.cells.toArray).heap[w.heap.size]? = some (.cells e.cells.toArray 37 (0, 0))) := withEnt_row w e
  clear he hxe
  obtain ⟨C, hC⟩ : ∃ C, (Value.int .u8 ((x.toNat : Nat) : Int) :: bys (List.replicate 31 0)).toArray = C := ⟨_, rfl⟩
  have b1 := builtMID ((x.toNat : Nat) : Int)
  have b2 := builtMark ((x.toNat : Nat) : Int) (-7 - ((x.toNat : Nat) : Int))
  have e3 : (Value.string ⟨#[109, 97, 114, 107]⟩ :: Value.int .i64 (-7 - ((x.toNat : Nat) : Int)) :: Value.int .u8 ((x.toNat : Nat) : Int) :: bys (List.replicate 31 0)).toArray = e.cells.toArray := by rw [he2]; rfl
  rw [e3, hC] at b2
  rw [hC] at b1
  clear e3 hC he2
  generalize e.cells.toArray = EC at *
  clear hok
  go_enter Tryd.func26, Tryd.ntmps26
  go_wp2_with (first
    | refine wpList_build_at rfl 35 [(0, .tmp 6)] rfl [(0, .int .u8 x.toNat)] rfl C b1 ?_
    | refine wpList_build_at rfl 37 [(0, .const (.string ⟨#[109, 97, 114, 107]⟩)), (1, .tmp 4), (2, .tmp 7)] rfl [(0, .string ⟨#[109, 97, 114, 107]⟩), (1, .int .i64 (-7 - ((x.toNat : Nat) : Int))), (2, .agg C)] rfl EC b2 ?_
    | refine wpList_store_rowTo rfl 37 (.tmp 2) (.tmp 8) rfl rfl w.heap.size EC rfl rfl 37 zeroE hnz hia hzs hal ?_)
  exact ret_row rfl rfl w.heap.size 37 _ (0, 0) _ rfl HR.out Tryd.underlying37 rfl hia ⟨rfl, HB.out⟩
/-- Entries with the marks behind their end. -/
def Cp (w : World) (base g n cap : Nat) (L : List Ent) : Prop := OwnE w base (.slice (some ⟨g, 0, none⟩) (n + 40) cap) (L ++ marks) ∧ L.length = n ∧ n + 40 ≤ cap
theorem Cp.ents {w : World} {base g n cap : Nat} {L : List Ent} (h : Cp w base g n cap L) : Ents w (some ⟨g, 0, none⟩) L := by
  obtain ⟨ao, cap', hv, _, hE, _⟩ := h.1.ents
  injection hv with q1 q2 q3
  subst q1
  have := hE.take L.length
  rw [List.take_left] at this
  exact this
theorem Cp.mark {w : World} {base g n cap : Nat} {L : List Ent} (h : Cp w base g n cap L) {i : Nat} (hi : i < 40) : w.rangeAt g ((n + i) * 34) (Go.Proofs.YthjknkkjjpjhmaaDoor.mark i).cells := by
  obtain ⟨ao, cap', hv, _, hE, _⟩ := h.1.ents
  injection hv with q1 q2 q3
  subst q1
  obtain ⟨_, _, hx, hc, _⟩ := hE (n + i) (by simp [marks, h.2.1]; omega)
  cases hx
  have e1 : (L ++ marks).getD (n + i) ent0 = Go.Proofs.YthjknkkjjpjhmaaDoor.mark i := by
    rw [← h.2.1]
    simp [List.getD, marks, hi]
  rw [e1, Nat.zero_add] at hc
  exact hc
theorem Cp.kept {l : List Nat} {w w' : World} {base g n cap : Nat} {L : List Ent} (h : Cp w base g n cap L) (hk : Kept l w w') (hn : g ∉ l) : Cp w' base g n cap L :=
  ⟨h.1.kept hk (fun g' hg => by simp [Value.ownBlock] at hg; subst hg; exact hn), h.2⟩
theorem Cp.far {w : World} {base g n cap : Nat} {L : List Ent} (h : Cp w base g n cap L) : base ≤ g ∧ g < w.heap.size := by
  obtain ⟨ao, cap', hv, _, _, hb, _⟩ := h.1.ents
  injection hv with q1 q2 q3
  subst q1
  obtain ⟨g', e, h1, h2, _⟩ := hb _ rfl
  cases e
  exact ⟨h1, h2⟩

/-- What whole looks at. -/
structure Cq (w : World) (g n cap : Nat) (L : List Ent) : Prop where
  ents : Ents w (some ⟨g, 0, none⟩) L
  mks : ∀ i, i < 40 → w.rangeAt g ((n + i) * 34) (Go.Proofs.YthjknkkjjpjhmaaDoor.mark i).cells
  len : L.length = n
  cap : n + 40 ≤ cap
theorem Cp.cq {w : World} {base g n cap : Nat} {L : List Ent} (h : Cp w base g n cap L) : Cq w g n cap L := ⟨h.ents, fun _ hi => h.mark hi, h.2.1, h.2.2⟩
theorem Cq.kept {l : List Nat} {w w' : World} {g n cap : Nat} {L : List Ent} (h : Cq w g n cap L) (hk : Kept l w w') (hn : g ∉ l) : Cq w' g n cap L :=
  ⟨h.ents.kept hk (fun _ a ha => by cases ha; exact hn), fun i hi j v hv => hk.cellOf (h.mks i hi j v hv) hn, h.len, h.cap⟩
set_option maxHeartbeats 3200000 in
set_option maxRecDepth 100000 in
theorem whole_ok (g n cap : Nat) (L : List Ent) (bo : Option Addr) (bc : Nat) (w : World) (hC : Cq w g n cap L) (hE : Ents w bo L) (hm : n * 56 ≤ 140737488351232) :
    Calls Tryd.prog 16 #[.slice (some ⟨g, 0, none⟩) n cap, .slice bo n bc] w fun r w' => r = .returned (.bool true) ∧ Kept [] w w' := by
  have HC := hide hC
  have HE := hide hE
  have hcap := hC.cap
  have hcut := fun W => Tryd.cutEnt W (some ⟨g, 0, none⟩) n cap (n + 40) hcap
  rw [show ((n + 40 : Nat) : Int) = (n : Int) + 40 by omega] at hcut
  clear hC hE
  go_enter Tryd.func16, Tryd.ntmps16
  go_wp2
  clear hcut
  go_loopw [6] (fun x wr => ∃ k : Nat, k ≤ 40 ∧ x = .int .i64 k ∧ Hid (Kept [] w wr)) (fun x wr => 40 - (intOf x).toNat)
  case atStart => exact ⟨0, Nat.zero_le _, rfl, Kept.refl _ _⟩
  case round =>
    obtain ⟨k, hk, rfl, HK⟩ := hrel
    by_cases hlt : k < 40
    · have hrg := HC.out.mks k hlt
      have hok := mark_ok hlt
      have hil : (Tryd.prog.info? 37).map (·.size) = some (mark k).cells.length := by rw [hok.len]; exact Tryd.infoEntry
      have heq := Tryd.eqlEnt (mark k) (mark k) hok hok
      rw [decide_eq_true (rfl : mark k = mark k)] at heq
      have hmk := marked_ok k hlt
      generalize mark k = em at heq hil hrg hmk hok
      have n1 : IntKind.i64.wrap ((n : Int) + k) = (n : Int) + k := by rw [IntKind.wrap_i64]; omega
      have n2 : (0 : Int) ≤ (n : Int) + k := by omega
      have n3 : ((n : Int) + k).toNat = n + k := by omega
      have n4 : (n : Int) + k < (n : Int) + 40 := by omega
      go_upto_region 5 with (fail)
      refine wp_region_held_drew (S := fun w' => Kept [] w w') (by kernel_rfl) (HK.out.drew) (fun h0 => ?_)
      generalize World.drew wr = v0 at h0 ⊢
      refine wpAnyH_take (i := 0) (v := .slice (some ⟨g, 0, none⟩) (n + 40) cap) rfl (by kernel_rfl) (by kernel_rfl) (by kernel_rfl) (fun _ _ _ h => h) (Or.inl ⟨by rfl, fun w hSw => by go_simp⟩) h0 ?_
      try simp only [List.getElem_toArray, List.getElem_cons_zero, List.getElem_cons_succ, Act.put, List.setIfInBounds_toArray, List.set_cons_zero, List.set_cons_succ]
      refine wpAnyH_take (i := 1) (v := .slice (some ⟨g, 0, none⟩) n cap) rfl (by kernel_rfl) (by kernel_rfl) (by kernel_rfl) (fun _ _ _ h => h) (Or.inl ⟨by rfl, fun w hSw => by go_simp⟩) h0 ?_
      try simp only [List.getElem_toArray, List.getElem_cons_zero, List.getElem_cons_succ, Act.put, List.setIfInBounds_toArray, List.set_cons_zero, List.set_cons_succ]
      refine wpAnyH_take (i := 2) (v := .int .i64 n) rfl (by kernel_rfl) (by kernel_rfl) (by kernel_rfl) (fun _ _ _ h => h) (Or.inl ⟨by rfl, fun w hSw => by go_simp⟩) h0 ?_
      try simp only [List.getElem_toArray, List.getElem_cons_zero, List.getElem_cons_succ, Act.put, List.setIfInBounds_toArray, List.set_cons_zero, List.set_cons_succ]
      refine wpAnyH_take (i := 3) (v := .int .i64 k) rfl (by kernel_rfl) (by kernel_rfl) (by kernel_rfl) (fun _ _ _ h => h) (Or.inl ⟨by rfl, fun w hSw => by go_simp⟩) h0 ?_
      try simp only [List.getElem_toArray, List.getElem_cons_zero, List.getElem_cons_succ, Act.put, List.setIfInBounds_toArray, List.set_cons_zero, List.set_cons_succ]
      refine wpAnyH_take (i := 4) (v := .int .i64 ((n : Int) + k)) rfl (by kernel_rfl) (by kernel_rfl) (by kernel_rfl) (fun _ _ _ h => h) (Or.inl ⟨by rfl, fun w hSw => by have c := n1; go_simp⟩) h0 ?_
      try simp only [List.getElem_toArray, List.getElem_cons_zero, List.getElem_cons_succ, Act.put, List.setIfInBounds_toArray, List.set_cons_zero, List.set_cons_succ]
      refine wpAnyH_take (i := 5) (v := .pointer (some ⟨g, (n + k) * 34, none⟩)) rfl (by kernel_rfl) (by kernel_rfl) (by kernel_rfl) (fun _ _ _ h => h) (Or.inl ⟨by rfl, fun w hSw => by have d1 := n2; have d2 := n3; have d3 := n4; go_simp⟩) h0 ?_
      try simp only [List.getElem_toArray, List.getElem_cons_zero, List.getElem_cons_succ, Act.put, List.setIfInBounds_toArray, List.set_cons_zero, List.set_cons_succ]
      refine wpAnyH_take (i := 6) rfl (by kernel_rfl) (by kernel_rfl) (by kernel_rfl) (fun _ _ _ h => h) (yieldsIf_load_mid (by rfl) _ _ rfl _ _ rfl _ _ (fun w h j v hv => Kept.cellOf h (hrg j v hv) (by simp)) Tryd.underlying37 rfl hil) h0 ?_
      try simp only [List.getElem_toArray, List.getElem_cons_zero, List.getElem_cons_succ, Act.put, List.setIfInBounds_toArray, List.set_cons_zero, List.set_cons_succ]
      refine wpAnyH_take (i := 7) (v := .int .i64 k) rfl (by kernel_rfl) (by kernel_rfl) (by kernel_rfl) (fun _ _ _ h => h) (Or.inl ⟨by rfl, fun w hSw => by go_simp⟩) h0 ?_
      try simp only [List.getElem_toArray, List.getElem_cons_zero, List.getElem_cons_succ, Act.put, List.setIfInBounds_toArray, List.set_cons_zero, List.set_cons_succ]
      refine wpAnyH_ready (rs := [8]) (by kernel_rfl) (by simp) (AllReadyH.cons (i := 8) rfl (fun K hK => ?_) AllReadyH.nil)
      rw [if_pos (by rfl)]
      go_simp
      refine (hmk v0).mono ?_
      rintro r v1 ⟨rfl, hq⟩
      refine hK.out _ _ (h0.trans (Kept.of_below hq) (by simp)) (fun h1 => ?_)
      clear hK K hq h0 hmk
      try simp only [List.getElem_toArray, List.getElem_cons_zero, List.getElem_cons_succ, Act.put, List.setIfInBounds_toArray, List.set_cons_zero, List.set_cons_succ]
      refine wpAnyH_take (i := 9) (v := .bool false) rfl (by kernel_rfl) (by kernel_rfl) (by kernel_rfl) (fun _ _ _ h => h) (Or.inl ⟨by rfl, fun w hSw => by have c := heq w; go_simp⟩) h1 ?_
      try simp only [List.getElem_toArray, List.getElem_cons_zero, List.getElem_cons_succ, Act.put, List.setIfInBounds_toArray, List.set_cons_zero, List.set_cons_succ]
      refine wpAnyH_done (by kernel_rfl) ?_ _
      clear heq hil hrg hok
      go_wp2
      go_roundw
      case rel => exact ⟨k + 1, by omega, by go_num, h1⟩
      case measure => simp [intOf]; omega
    · have hal := alike_any (some ⟨g, 0, none⟩) bo n cap n bc L L wr HC.out.len HC.out.len (by omega) (HC.out.ents.kept HK.out (by simp)) (HE.out.kept HK.out (by simp))
      rw [decide_eq_true (rfl : L = L)] at hal
      go_wp2_with (go_at_call 20; refine hal.mono ?_; rintro r v2 ⟨rfl, hk2⟩; have HK2 := hide (HK.out.trans hk2 (by simp)); clear hal hk2)
      go_ret
      exact ⟨rfl, HK2.out⟩
end Go.Proofs.YthjknkkjjpjhmaaDoor
