/-
  Trees as mathematics. Contracts: tree.areTree, freightref7.Is. (Written by tools/ng.py.)
-/
import Derived.Test.YtjogfpogdjhglaaDoorNf
import Derived.Deep.Cut
import Derived.Deep.CutRange
import Derived.Deep.RegionHeld3
import Derived.Laws.Rows
namespace Go.Proofs.YtjogfpogdjhglaaDoor
open Go.RowKit
set_option linter.unusedVariables false
set_option linter.unusedSimpArgs false

namespace Tn
/-- Is the entry at i right, behind the one ahead of it? -/
def right (L : List Ent) (i : Nat) : Bool := isK (L.getD i ent0).kind && valid (L.getD i ent0).name && (decide (i = 0) || lt (L.getD (i - 1) ent0).name (L.getD i ent0).name)
/-- P7.2. -/
def isTree (L : List Ent) : Bool := decide (L.length ≤ 32) && (List.range L.length).all (right L)
theorem may_at {L : List Ent} {i : Nat} (h : i < L.length) : may (L.take i) (L.getD i ent0) = (decide (i ≠ 32) && right L i) := by
  have hl : (L.take i).length = i := by simp; omega
  unfold may right
  rw [hl]
  by_cases e : i = 0
  · subst e; simp
  · rw [getD_take (by omega)]
    simp only [Bool.and_assoc]
theorem isTree_yes {L : List Ent} (h : ∀ j, j < L.length → may (L.take j) (L.getD j ent0) = true) : isTree L = true := by
  have hl : L.length ≤ 32 := by
    rcases Nat.lt_or_ge 32 L.length with g | g
    · have := h 32 g
      rw [may_at g] at this
      simp at this
    · exact g
  simp only [isTree, hl, decide_true, Bool.true_and, List.all_eq_true, List.mem_range]
  intro j hj
  have := h j hj
  rw [may_at hj] at this
  simp only [Bool.and_eq_true] at this
  exact this.2
theorem isTree_no {L : List Ent} {k : Nat} (hk : k < L.length) (h : may (L.take k) (L.getD k ent0) = false) : isTree L = false := by
  rw [Bool.eq_false_iff]; intro ht
  simp only [isTree, Bool.and_eq_true, decide_eq_true_eq, List.all_eq_true, List.mem_range] at ht
  rw [may_at hk, ht.2 k hk] at h
  have := ht.1
  simp at h
  omega
theorem isTree_long {L : List Ent} (h : 32 < L.length) : isTree L = false := by
  have : ¬ L.length ≤ 32 := by omega
  simp [isTree, this]
theorem isTree_right {L : List Ent} (hl : L.length ≤ 32) (h : ∀ j, j < L.length → right L j = true) : isTree L = true := by
  simp only [isTree, hl, decide_true, Bool.true_and, List.all_eq_true, List.mem_range]
  exact h
theorem isTree_wrong {L : List Ent} {k : Nat} (hk : k < L.length) (h : right L k = false) : isTree L = false := by
  rw [Bool.eq_false_iff]; intro ht
  simp only [isTree, Bool.and_eq_true, decide_eq_true_eq, List.all_eq_true, List.mem_range] at ht
  rw [ht.2 k hk] at h; cases h
end Tn

/-- A new variable for an entry. -/
def zeroE : Array Value := ent0.cells.toArray
theorem Tryd.zeroEntry (W : World) : (zeroValue 42).run Tryd.prog W = .ok (.agg zeroE) W := by kernel_rfl
theorem Tryd.infoEntry : (Tryd.prog.info? 42).map (·.size) = some 34 := by kernel_rfl
theorem Tryd.cutEnt (W : World) (ao : Option Addr) (L cap m : Nat) (hm : m ≤ cap) :
    (Instr.slice 22 (.slice ao L cap) none (some (.int .i64 m)) none).run Tryd.prog W = .ok (.slice ao m cap) W := by
  have hz : (sizeOf (Tryd.prog.elem 22)).run Tryd.prog W = .ok 34 W := by kernel_rfl
  have h := run_slice_h (P := Tryd.prog) W 22 ao L cap (by kernel_rfl) .i64 m (by omega) (by omega)
  rw [h, hz]
  cases ao <;> simp [sliced, Addr.add]
theorem ent_all (e : Ent) : e.cells.toArray.all (·.oneCell') = true := by
  simp only [List.all_toArray, List.all_eq_true]
  exact ent_one e
theorem ent_size {e : Ent} (h : EntOk e) : e.cells.toArray.size = 34 := by simp [h.len]
/-- The world with a new variable that holds an entry. -/
def withEnt (w : World) (e : Ent) : World := (w.alloc (.cells zeroE 42)).setRow w.heap.size e.cells.toArray
theorem withEnt_below (w : World) (e : Ent) : Below w.heap.size w (withEnt w e) := by
  have h : Below w.heap.size w (w.alloc (.cells zeroE 42)) := (Below.refl _ w).alloc (Nat.le_refl _) _
  exact ⟨h.os, h.tape, h.output, by unfold withEnt; rw [size_setRow]; exact h.size, fun k hk => (setRow_other _ w.heap.size k _ (by omega)).trans (h.block k hk)⟩
theorem withEnt_size (w : World) (e : Ent) : (withEnt w e).heap.size = w.heap.size + 1 := by unfold withEnt; rw [size_setRow]; simp
theorem withEnt_row (w : World) (e : Ent) : (withEnt w e).heap[w.heap.size]? = some (.cells e.cells.toArray 42 (0, 0)) := setRow_heap _ _ _ _ _ _ (heap_new w _)
theorem ent_range {w : World} {g : Nat} {e : Ent} {t : TypeId} {f : Nat × Nat} (h : w.heap[g]? = some (.cells e.cells.toArray t f)) : w.rangeAt g 0 e.cells := fun j v hv => by
  rw [Nat.zero_add, cell_of_row _ _ _ _ _ _ h]; simpa using hv
theorem new_zero (w : World) : (w.alloc (.cells zeroE 42)).heap[w.heap.size]? = some (.cells zeroE 42 (0, 0)) := heap_new w _
theorem zero_size {e : Ent} (h : EntOk e) : zeroE.size = e.cells.toArray.size := by rw [ent_size h]; rfl

set_option maxHeartbeats 3200000 in
set_option maxRecDepth 100000 in
theorem areTree_some (b off n cap : Nat) (L : List Ent) (w : World) (hn : L.length = n) (hnc : n ≤ cap) (hcm : n ≤ 4611686018427387904) (hL : Ents w (some ⟨b, off, none⟩) L) (hT : Tabs w) :
    Calls Tryd.prog 15 #[.slice (some ⟨b, off, none⟩) n cap] w fun r w' => r = .returned (.bool (Tn.isTree L)) ∧ Below w.heap.size w w' := by
  have HN : Hid (L.length = n) := hn
  have HL : Hid (Ents w (some ⟨b, off, none⟩) L) := hL
  have HT : Hid (Tabs w) := hT
  clear hn hL hT
  have hz := Tryd.zeroEntry
  go_enter Tryd.func15, Tryd.ntmps15
  go_wp2
  go_loopw [7] (fun x wr => ∃ k : Nat, k ≤ n ∧ x = .int .i64 k ∧ Hid (Below w.heap.size w wr) ∧ Hid (∀ j, j < k → Tn.may (L.take j) (L.getD j ent0) = true)) (fun x wr => n - (intOf x).toNat)
  case atStart => exact ⟨0, Nat.zero_le _, rfl, Below.refl _ _, fun j hj => by omega⟩
  case round =>
    obtain ⟨k, hk, rfl, HB, HM⟩ := hrel
    by_cases hlt : k < n
    · have hkl : k < L.length := by rw [HN.out]; exact hlt
      have hL2 := HL.out.below HB.out
      obtain ⟨_, _, hx, hrg, hok⟩ := hL2 k hkl
      cases hx
      obtain ⟨e, he⟩ : ∃ e, L.getD k ent0 = e := ⟨_, rfl⟩
      rw [he] at hrg hok
      have HE : Hid (L.getD k ent0 = e) := he
      have hnz := new_zero wr
      have hil : (Tryd.prog.info? 42).map (·.size) = some e.cells.length := by rw [hok.len]; exact Tryd.infoEntry
      have hia : (Tryd.prog.info? 42).map (·.size) = some e.cells.toArray.size := by rw [ent_size hok]; exact Tryd.infoEntry
      have hzs := zero_size hok
      have hal := ent_all e
      have HOK : Hid (EntOk e) := hok
      clear hok he
      go_upto_region 4 with (first | refine wpList_load_mid rfl 42 (.tmp 10) rfl b (off + k * 34) rfl e.cells _ hrg Tryd.underlying42 rfl hil ?_ | refine wpList_store_rowTo rfl 42 (.tmp 4) (.tmp 11) rfl rfl wr.heap.size e.cells.toArray rfl rfl 42 zeroE hnz hia hzs hal ?_)
      have hW : (wr.alloc (.cells zeroE 42)).setRow wr.heap.size e.cells.toArray = withEnt wr e := rfl
      rw [hW]
      have hWb := withEnt_below wr e
      have hWs := withEnt_size wr e
      have hWr := ent_range (withEnt_row wr e)
      have hLW := (HL.out.below HB.out).below hWb
      have hBW := HB.out.trans (hWb.mono HB.out.size)
      have hTW := HT.out.below hBW
      generalize withEnt wr e = W at *
      clear hW hL2 hrg
      refine wp_region_held_drew (S := fun w' => Kept [] W w') (by kernel_rfl) ((Kept.refl [] W).drew) (fun h0 => ?_)
      generalize World.drew W = v0 at h0 ⊢
      refine wpAnyH_take (i := 0) (v := .slice (some ⟨b, off, none⟩) n cap) rfl (by kernel_rfl) (by kernel_rfl) (by kernel_rfl) (fun _ _ _ h => h) (Or.inl ⟨by rfl, fun w hSw => by go_simp⟩) h0 ?_
      try simp only [List.getElem_toArray, List.getElem_cons_zero, List.getElem_cons_succ, Act.put, List.setIfInBounds_toArray, List.set_cons_zero, List.set_cons_succ]
      refine wpAnyH_take (i := 1) (v := .int .i64 k) rfl (by kernel_rfl) (by kernel_rfl) (by kernel_rfl) (fun _ _ _ h => h) (Or.inl ⟨by rfl, fun w hSw => by go_simp⟩) h0 ?_
      try simp only [List.getElem_toArray, List.getElem_cons_zero, List.getElem_cons_succ, Act.put, List.setIfInBounds_toArray, List.set_cons_zero, List.set_cons_succ]
      refine wpAnyH_take (i := 2) (v := .slice (some ⟨b, off, none⟩) k cap) rfl (by kernel_rfl) (by kernel_rfl) (by kernel_rfl) (fun _ _ _ h => h) (Or.inl ⟨by rfl, fun w hSw => by have c := Tryd.cutEnt w (some ⟨b, off, none⟩) n cap k (by omega); go_simp⟩) h0 ?_
      try simp only [List.getElem_toArray, List.getElem_cons_zero, List.getElem_cons_succ, Act.put, List.setIfInBounds_toArray, List.set_cons_zero, List.set_cons_succ]
      refine wpAnyH_take (i := 3) rfl (by kernel_rfl) (by kernel_rfl) (by kernel_rfl) (fun _ _ _ h => h) (yieldsIf_load_mid (by rfl) _ _ rfl _ _ rfl _ _ (fun w h j v hv => Kept.cellOf h (hWr j v hv) (by simp)) Tryd.underlying42 rfl hil) h0 ?_
      try simp only [List.getElem_toArray, List.getElem_cons_zero, List.getElem_cons_succ, Act.put, List.setIfInBounds_toArray, List.set_cons_zero, List.set_cons_succ]
      have hmay := mayFollow_ok (some ⟨b, off, none⟩) k cap (L.take k) e v0 (by simp; omega) ((hLW.kept h0 (by simp)).take k) HOK.out (hTW.kept h0 (by simp)) (by omega)
      obtain ⟨M, hM⟩ : ∃ M, Tn.may (L.take k) e = M := ⟨_, rfl⟩
      rw [hM] at hmay
      refine wpAnyH_ready (rs := [4]) (by kernel_rfl) (by simp) (AllReadyH.cons (i := 4) rfl (fun K hK => ?_) AllReadyH.nil)
      rw [if_pos (by rfl)]
      go_simp
      refine hmay.mono ?_
      rintro r v1 ⟨rfl, hq⟩
      refine hK.out _ _ (h0.trans (Kept.of_below hq) (by simp)) (fun h1 => ?_)
      clear hK K hq h0 hmay
      try simp only [List.getElem_toArray, List.getElem_cons_zero, List.getElem_cons_succ, Act.put, List.setIfInBounds_toArray, List.set_cons_zero, List.set_cons_succ]
      refine wpAnyH_take (i := 5) (v := .bool (!M)) rfl (by kernel_rfl) (by kernel_rfl) (by kernel_rfl) (fun _ _ _ h => h) (Or.inl ⟨by rfl, fun w hSw => by go_simp⟩) h1 ?_
      try simp only [List.getElem_toArray, List.getElem_cons_zero, List.getElem_cons_succ, Act.put, List.setIfInBounds_toArray, List.set_cons_zero, List.set_cons_succ]
      refine wpAnyH_done (by kernel_rfl) ?_ _
      have HM2 : Hid (Tn.may (L.take k) (L.getD k ent0) = M) := by show _ = _; rw [HE.out]; exact hM
      have HB2 : Hid (Below w.heap.size w v1) := hBW.trans ((h1.below (Nat.le_refl _) (by simp)).mono hBW.size)
      clear h1 hM hLW hBW hTW hWb hWs hWr hnz hil hia hzs hal HE HOK
      cases M with
      | false =>
        go_wp2
        go_ret
        exact ⟨by rw [Tn.isTree_no hkl HM2.out]; rfl, HB2.out⟩
      | true =>
        go_wp2
        go_roundw
        case rel =>
          refine ⟨k + 1, by omega, by go_num, HB2, fun j hj => ?_⟩
          by_cases e : j = k
          · subst e; exact HM2.out
          · exact HM.out j (by omega)
        case measure => simp [intOf]; omega
    · have ht : Hid (Tn.isTree L = true) := Tn.isTree_yes (fun j hj => HM.out j (by have := HN.out; omega))
      go_wp2
      go_ret
      exact ⟨by rw [ht.out]; rfl, HB.out⟩

namespace Tn
theorem isK_no (k : Int) (h : k < 1 ∨ 3 < k) : isK k = false := by
  rw [Bool.eq_false_iff]; intro a; simp only [isK, Bool.and_eq_true, decide_eq_true_eq] at a; omega
end Tn
set_option maxHeartbeats 800000 in
set_option maxRecDepth 100000 in
theorem areTree_none (ao : Option Addr) (cap : Nat) (w : World) :
    Calls Tryd.prog 15 #[.slice ao 0 cap] w fun r w' => r = .returned (.bool true) ∧ w' = w := by
  go_enter Tryd.func15, Tryd.ntmps15
  go_wp2
  go_loopw [7] (fun x wr => wr = w ∧ x = .int .i64 0) (fun x wr => 0)
  case atStart => exact ⟨rfl, rfl⟩
  case round =>
    obtain ⟨rfl, rfl⟩ := hrel
    go_wp2
    go_ret
    exact ⟨rfl, rfl⟩
/-- tree.areTree. -/
theorem areTree_ok (ao : Option Addr) (n cap : Nat) (L : List Ent) (w : World) (hn : L.length = n) (hnc : n ≤ cap) (hcm : n ≤ 4611686018427387904) (hL : Ents w ao L) (hT : Tabs w) :
    Calls Tryd.prog 15 #[.slice ao n cap] w fun r w' => r = .returned (.bool (Tn.isTree L)) ∧ Below w.heap.size w w' := by
  by_cases h0 : L = []
  · subst h0
    obtain rfl : n = 0 := by simpa using hn.symm
    refine (areTree_none ao cap w).mono ?_
    rintro r w' ⟨rfl, rfl⟩
    exact ⟨rfl, Below.refl _ _⟩
  · obtain ⟨b, off, rfl, _, _⟩ := hL.open h0
    exact areTree_some b off n cap L w hn hnc hcm hL hT

set_option maxHeartbeats 3200000 in
set_option maxRecDepth 100000 in
theorem is_some (b off n cap : Nat) (L : List Ent) (w : World) (hn : L.length = n) (h32 : ¬ 32 < n) (hL : Ents w (some ⟨b, off, none⟩) L) :
    Calls Tryd.prog 24 #[.slice (some ⟨b, off, none⟩) n cap] w fun r w' => r = .returned (.bool (Tn.isTree L)) ∧ Below w.heap.size w w' := by
  have HN : Hid (L.length = n) := hn
  have HL : Hid (Ents w (some ⟨b, off, none⟩) L) := hL
  clear hn hL
  have hz := Tryd.zeroEntry
  have n32 : decide (32 < (n : Int)) = false := by simp; omega
  go_enter Tryd.func24, Tryd.ntmps24
  go_wp2
  go_loopw [3] (fun x wr => ∃ k : Nat, k ≤ n ∧ x = .int .i64 k ∧ Hid (Below w.heap.size w wr) ∧ Hid (∀ j, j < k → Tn.right L j = true)) (fun x wr => n - (intOf x).toNat)
  case atStart => exact ⟨0, Nat.zero_le _, rfl, Below.refl _ _, fun j hj => by omega⟩
  case round =>
    obtain ⟨k, hk, rfl, HB, HM⟩ := hrel
    by_cases hlt : k < n
    · have hkl : k < L.length := by rw [HN.out]; exact hlt
      have hL2 := HL.out.below HB.out
      obtain ⟨_, _, hx, hrg, hok⟩ := hL2 k hkl
      cases hx
      obtain ⟨e, he⟩ : ∃ e, L.getD k ent0 = e := ⟨_, rfl⟩
      rw [he] at hrg hok
      have HE : Hid (L.getD k ent0 = e) := he
      have hnz := new_zero wr
      have hil : (Tryd.prog.info? 42).map (·.size) = some e.cells.length := by rw [hok.len]; exact Tryd.infoEntry
      have hia : (Tryd.prog.info? 42).map (·.size) = some e.cells.toArray.size := by rw [ent_size hok]; exact Tryd.infoEntry
      have hzs := zero_size hok
      have hal := ent_all e
      have HOK : Hid (EntOk e) := hok
      clear hok he
      go_upto_region 7 with (first | refine wpList_load_mid rfl 42 (.tmp 16) rfl b (off + k * 34) rfl e.cells _ hrg Tryd.underlying42 rfl hil ?_ | refine wpList_store_rowTo rfl 42 (.tmp 4) (.tmp 17) rfl rfl wr.heap.size e.cells.toArray rfl rfl 42 zeroE hnz hia hzs hal ?_)
      have hW : (wr.alloc (.cells zeroE 42)).setRow wr.heap.size e.cells.toArray = withEnt wr e := rfl
      rw [hW]
      have hWb := withEnt_below wr e
      have hWr := ent_range (withEnt_row wr e)
      have c0 := hWr 0 _ rfl
      have c1 := hWr 1 _ rfl
      have hLW := (HL.out.below HB.out).below hWb
      have HB2 : Hid (Below w.heap.size w (withEnt wr e)) := HB.out.trans (hWb.mono HB.out.size)
      generalize withEnt wr e = W at *
      have HR : Hid (Tn.right L k = (Tn.isK e.kind && Tn.valid e.name && (decide (k = 0) || Tn.lt (L.getD (k - 1) ent0).name e.name))) := by show _ = _; unfold Tn.right; rw [HE.out]
      have hv := refvalid_ok e.name
      have hnm := HOK.out.nam
      clear hW hL2 hrg hWr hWb hnz hil hia hzs hal HE HOK
      generalize e.name = nm at *
      generalize e.kind = kd at *
      replace hv := fun W => hv W hnm
      simp only [Nat.zero_add, Nat.add_zero] at c0 c1
      obtain ⟨V, hV⟩ : ∃ V, Tn.valid nm = V := ⟨_, rfl⟩
      rw [hV] at HR
      simp only [hV] at hv
      clear hV
      cases V with
      | false =>
        go_quiet ((go_at_call 37; exact Calls.quiet_of_same (hv _)))
        go_wp2
        go_ret
        exact ⟨by rw [Tn.isTree_wrong hkl (by rw [HR.out]; simp)]; rfl, below_drewN HB2.out _⟩
      | true =>
        by_cases k1 : kd < 1
        · have k1' : decide (kd < 1) = true := by simp [k1]
          go_quiet ((go_at_call 37; exact Calls.quiet_of_same (hv _)))
          go_wp2
          go_ret
          exact ⟨by rw [Tn.isTree_wrong hkl (by rw [HR.out, Tn.isK_no kd (by omega)]; rfl)]; rfl, below_drewN HB2.out _⟩
        · have k1' : decide (kd < 1) = false := by simp; omega
          by_cases k3 : 3 < kd
          · have k3' : decide (3 < kd) = true := by simp [k3]
            go_quiet ((go_at_call 37; exact Calls.quiet_of_same (hv _)))
            go_wp2
            go_ret
            exact ⟨by rw [Tn.isTree_wrong hkl (by rw [HR.out, Tn.isK_no kd (by omega)]; rfl)]; rfl, below_drewN HB2.out _⟩
          · have k3' : decide (3 < kd) = false := by simp; omega
            have hik : Tn.isK kd = true := by simp [Tn.isK]; omega
            rw [hik] at HR
            by_cases hk0 : k = 0
            · subst hk0
              have kk : decide (0 < ((0 : Nat) : Int)) = false := by simp
              go_quiet ((go_at_call 37; exact Calls.quiet_of_same (hv _)))
              go_wp2
              go_roundw
              case rel =>
                refine ⟨1, by omega, by go_num, below_drewN HB2.out _, fun j hj => ?_⟩
                obtain rfl : j = 0 := by omega
                rw [HR.out]; simp
              case measure => simp [intOf]; omega
            · obtain ⟨m, rfl⟩ : ∃ m, k = m + 1 := ⟨k - 1, by omega⟩
              have kk : decide (0 < (((m + 1 : Nat)) : Int)) = true := decide_eq_true (by omega)
              have kk' : decide (0 < (m : Int) + 1) = true := decide_eq_true (by omega)
              obtain ⟨_, _, hx, hrp, _⟩ := hLW m (by omega)
              cases hx
              have cp := hrp 0 _ rfl
              simp only [Nat.add_zero, Nat.add_sub_cancel] at cp HR
              generalize (L.getD m ent0).name = pn at cp HR
              clear hrp hLW
              obtain ⟨Z, hZ⟩ : ∃ Z, Op.bytesLess pn nm = Z := ⟨_, rfl⟩
              have HZ : Hid (Tn.right L (m + 1) = Z) := by show _ = _; rw [HR.out]; simp [Tn.lt, hZ]
              clear HR
              cases Z with
              | false =>
                go_quiet ((go_at_call 37; exact Calls.quiet_of_same (hv _)))
                go_wp2
                go_ret
                exact ⟨by rw [Tn.isTree_wrong hkl HZ.out]; rfl, below_drewN HB2.out _⟩
              | true =>
                go_quiet ((go_at_call 37; exact Calls.quiet_of_same (hv _)))
                go_wp2
                go_roundw
                case rel =>
                  refine ⟨m + 1 + 1, by omega, by go_num, below_drewN HB2.out _, fun j hj => ?_⟩
                  by_cases e : j = m + 1
                  · subst e; exact HZ.out
                  · exact HM.out j (by omega)
                case measure => simp [intOf]; omega
    · have ht : Hid (Tn.isTree L = true) := Tn.isTree_right (by have := HN.out; omega) (fun j hj => HM.out j (by have := HN.out; omega))
      go_wp2
      go_ret
      exact ⟨by rw [ht.out]; rfl, HB.out⟩
set_option maxHeartbeats 800000 in
set_option maxRecDepth 100000 in
theorem is_none (ao : Option Addr) (cap : Nat) (w : World) :
    Calls Tryd.prog 24 #[.slice ao 0 cap] w fun r w' => r = .returned (.bool true) ∧ w' = w := by
  go_enter Tryd.func24, Tryd.ntmps24
  go_wp2
  go_loopw [3] (fun x wr => wr = w ∧ x = .int .i64 0) (fun x wr => 0)
  case atStart => exact ⟨rfl, rfl⟩
  case round =>
    obtain ⟨rfl, rfl⟩ := hrel
    go_wp2
    go_ret
    exact ⟨rfl, rfl⟩
set_option maxHeartbeats 800000 in
set_option maxRecDepth 100000 in
theorem is_long (ao : Option Addr) (n cap : Nat) (w : World) (h : 32 < n) (hm : n ≤ 9223372036854775807) :
    Calls Tryd.prog 24 #[.slice ao n cap] w fun r w' => r = .returned (.bool false) ∧ w' = w := by
  go_enter Tryd.func24, Tryd.ntmps24
  go_wp2
  go_ret
  exact ⟨rfl, rfl⟩
/-- freightref7.Is. -/
theorem is_ok (ao : Option Addr) (n cap : Nat) (L : List Ent) (w : World) (hn : L.length = n) (hm : n ≤ 9223372036854775807) (hL : Ents w ao L) :
    Calls Tryd.prog 24 #[.slice ao n cap] w fun r w' => r = .returned (.bool (Tn.isTree L)) ∧ Below w.heap.size w w' := by
  by_cases h0 : L = []
  · subst h0
    obtain rfl : n = 0 := by simpa using hn.symm
    refine (is_none ao cap w).mono ?_
    rintro r w' ⟨rfl, rfl⟩
    exact ⟨rfl, Below.refl _ _⟩
  · by_cases h1 : 32 < n
    · refine (is_long ao n cap w h1 hm).mono ?_
      rintro r w' ⟨rfl, rfl⟩
      exact ⟨by rw [Tn.isTree_long (by rw [hn]; exact h1)], Below.refl _ _⟩
    · obtain ⟨b, off, rfl, _, _⟩ := hL.open h0
      exact is_some b off n cap L w hn h1 hL

end Go.Proofs.YtjogfpogdjhglaaDoor
