/-
  A tree's form. Contract: tree.Encode.
-/
import Derived.Test.YtjogfpogdjhglaaDoorNg
import Derived.Test.YtjogfpogdjhglaaDoorWr3
import Derived.Test.YtjogfpogdjhglaaDoorWr4
import Derived.Test.YtjogfpogdjhglaaDoorWr5
import Derived.Lib.ConvBytes
namespace Go.Proofs.YtjogfpogdjhglaaDoor
open Go.RowKit
set_option linter.unusedVariables false
set_option linter.unusedSimpArgs false

namespace Tn
/-- P7.3: an entry's form, a tree's. -/
def encE (e : Ent) : List UInt8 := UInt8.ofNat e.kind.toNat :: UInt8.ofNat e.name.length :: (e.name ++ e.id)
def encT (L : List Ent) : List UInt8 := 84 :: UInt8.ofNat L.length :: L.flatMap encE
/-- What Encode answers. -/
def encd (L : List Ent) : List UInt8 := if isTree L then encT L else []
def code (b : Bool) : Int := if b then 0 else 70
theorem encE_len (e : Ent) (h : EntOk e) : (encE e).length = 34 + e.name.length := by simp [encE, h.idl]; omega
theorem flat_snoc (L : List Ent) (k : Nat) (h : k < L.length) : (L.take (k + 1)).flatMap encE = (L.take k).flatMap encE ++ encE (L.getD k ent0) := by
  have e : L.getD k ent0 = L[k] := by simp [List.getD, List.getElem?_eq_getElem h]
  rw [e, List.take_succ_eq_append_getElem h, List.flatMap_append]
  simp only [List.flatMap_cons, List.flatMap_nil, List.append_nil]
theorem isTree_at {L : List Ent} (h : isTree L = true) {k : Nat} (hk : k < L.length) : 1 ≤ (L.getD k ent0).kind ∧ (L.getD k ent0).kind ≤ 3 ∧ (L.getD k ent0).name.length ≤ 32 := by
  simp only [isTree, Bool.and_eq_true, decide_eq_true_eq, List.all_eq_true, List.mem_range] at h
  have := h.2 k hk
  simp only [right, isK, valid, Bool.and_eq_true, decide_eq_true_eq, Bool.not_eq_true', Bool.or_eq_false_iff, decide_eq_false_iff_not] at this
  refine ⟨this.1.1.1, this.1.1.2, ?_⟩
  have := this.1.2.1.1.1.2
  omega
theorem isTree_len {L : List Ent} (h : isTree L = true) : L.length ≤ 32 := by
  simp only [isTree, Bool.and_eq_true, decide_eq_true_eq] at h
  exact h.1
theorem flat_len {L : List Ent} (hL : ∀ i, i < L.length → EntOk (L.getD i ent0)) (h : isTree L = true) (k : Nat) (hk : k ≤ L.length) : ((L.take k).flatMap encE).length ≤ 66 * k := by
  induction k with
  | zero => simp
  | succ k ih =>
    rw [flat_snoc L k (by omega), List.length_append, encE_len _ (hL k (by omega))]
    have := ih (by omega)
    have := (isTree_at h (show k < L.length by omega)).2.2
    omega
end Tn

/-- A new Writer. -/
def zeroW : Array Value := (wrow 0 0 none (List.replicate 64 0) 0).toArray
theorem Tryd.zeroWriter (W : World) : (zeroValue 53).run Tryd.prog W = .ok (.agg zeroW) W := by kernel_rfl
theorem wr_zero (w : World) : Wr (w.alloc (.cells zeroW 53)) w.heap.size [] [] := by
  refine ⟨⟨none, List.replicate 64 0, ⟨?_, by simp⟩, by simp, .nil⟩, by simp⟩
  rw [heap_new]
  rfl
theorem Tryd.slice32 (W : World) (b o : Nat) :
    (Instr.sliceAt 40 (.pointer (some ⟨b, o, none⟩)) none none none).run Tryd.prog W = .ok (.slice (some ⟨b, o, none⟩) 32 32) W := by
  have ha : Tryd.prog.arrayLen 40 = 32 := by kernel_rfl
  have hz : (sizeOf (Tryd.prog.elem 40)).run Tryd.prog W = .ok 1 W := by kernel_rfl
  have h := run_sliceAt_array_all (P := Tryd.prog) W 40 ⟨b, o, none⟩ (by kernel_rfl)
  rw [h, hz, ha]
  simp [slicedAt, Addr.add_mid]
/-- []byte(s). -/
theorem of_str (w : World) (s : List UInt8) : ∃ c w', (convert 9 23 (.string ⟨s.toArray⟩)).run Tryd.prog w = .ok (.slice (some ⟨w.heap.size, 0, none⟩) s.length c) w' ∧ s.length ≤ c ∧ Sl w' (some ⟨w.heap.size, 0, none⟩) s ∧ Kept [] w w' ∧ w'.heap.size = w.heap.size + 1 := by
  have h := Lib.run_convert_string_bytes (P := Tryd.prog) w 9 23 5 ⟨s.toArray⟩ Tryd.underlying9 Tryd.underlying23 Tryd.underlying5
  rw [str_size] at h
  refine ⟨_, _, h, grownCap_ge w s.length 0 5, Sl.of fun i hi => ?_, ⟨rfl, rfl, rfl, by rw [Lib.bytesWorld_size]; omega, fun k hk _ => Lib.bytesWorld_at_old w _ _ k hk⟩, Lib.bytesWorld_size _ _ _⟩
  rw [Nat.zero_add, Lib.bytesWorld_cell w _ _ i (by rw [str_size]; exact hi)]
theorem own_base {w : World} {b1 b2 : Nat} {e : TypeId} {size : Nat} {v : Value} {n : Nat} {xs : List Value} (h : w.ownsRow b1 e size v n xs) (hb : b2 ≤ b1) : w.ownsRow b2 e size v n xs := by
  refine ⟨h.1, ?_⟩
  rcases h.2 with h1 | ⟨g, cap, cur, h1, h2, h3⟩
  · exact .inl h1
  · exact .inr ⟨g, cap, cur, h1, Nat.le_trans hb h2, h3⟩
/-- What an Encode answers: bytes of its own and a number. -/
def Told (w w' : World) (r : Ending) (b : Bool) (xs : List UInt8) : Prop :=
  (∃ v, r = .returned (.tuple #[v, .int .i64 (Tn.code b)]) ∧ w'.ownsRow w.heap.size 5 1 v xs.length (bys xs)) ∧ Below w.heap.size w w'

set_option maxHeartbeats 3200000 in
set_option maxRecDepth 100000 in
theorem encode_no (ao : Option Addr) (n cap : Nat) (L : List Ent) (w : World) (hn : L.length = n) (hnc : n ≤ cap) (hcm : n ≤ 4611686018427387904) (hL : Ents w ao L) (hT : Tabs w) (ht : Tn.isTree L = false) :
    Calls Tryd.prog 5 #[.slice ao n cap] w fun r w' => Told w w' r false [] := by
  have ha := areTree_ok ao n cap L w hn hnc hcm hL hT
  rw [ht] at ha
  clear hL hT ht
  go_enter Tryd.func5, Tryd.ntmps5
  go_wp2_with (go_at_call 15; refine ha.mono ?_; rintro r w1 ⟨rfl, hb⟩)
  go_ret2
  exact ⟨⟨_, rfl, World.ownsRow_nil _ _ _ _⟩, hb⟩

set_option maxHeartbeats 3200000 in
set_option maxRecDepth 100000 in
theorem encode_yes (b off n cap : Nat) (L : List Ent) (w : World) (hn : L.length = n) (hnc : n ≤ cap) (hcm : n ≤ 4611686018427387904) (hL : Ents w (some ⟨b, off, none⟩) L) (hT : Tabs w) (ht : Tn.isTree L = true) (hbw : n ≠ 0 → b < w.heap.size) (ao : Option Addr) (hao : n = 0 ∨ ao = some ⟨b, off, none⟩) (hLa : Ents w ao L) :
    Calls Tryd.prog 5 #[.slice ao n cap] w fun r w' => Told w w' r true (Tn.encT L) := by
  have ha := areTree_ok ao n cap L w hn hnc hcm hLa hT
  rw [ht] at ha
  have h32 := Tn.isTree_len ht
  have hok : ∀ i, i < L.length → EntOk (L.getD i ent0) := fun i hi => by obtain ⟨_, _, _, _, h⟩ := hL i hi; exact h
  have HFL : Hid (∀ k, k ≤ L.length → ((L.take k).flatMap Tn.encE).length ≤ 66 * k) := fun k hk => Tn.flat_len hok ht k hk
  have HTA : Hid (∀ k, k < L.length → 1 ≤ (L.getD k ent0).kind ∧ (L.getD k ent0).kind ≤ 3 ∧ (L.getD k ent0).name.length ≤ 32) := fun k hk => Tn.isTree_at ht hk
  have HN : Hid (L.length = n) := hn
  have HL : Hid (Ents w (some ⟨b, off, none⟩) L) := hL
  rw [hn] at h32
  clear hn hL hT ht hLa hok
  have hz := Tryd.zeroEntry
  have hzw := Tryd.zeroWriter
  go_enter Tryd.func5, Tryd.ntmps5
  go_wp2_with (go_at_call 15; refine ha.mono ?_; rintro r w1 ⟨rfl, hb1⟩)
  clear ha
  have hw0 := wr_zero w1
  obtain ⟨B, hB⟩ : ∃ B, w1.heap.size = B := ⟨_, rfl⟩
  have hb0 : Below w.heap.size w (w1.alloc (.cells zeroW 53)) := hb1.alloc hb1.size _
  have hBw : w.heap.size ≤ B := by rw [← hB]; exact hb1.size
  rw [hB] at hw0 ⊢
  generalize w1.alloc _ = w2 at hw0 hb0 ⊢
  have hx1 := wfixed_ok hw0 84 1 (by omega) (by omega) (by omega) (by simp)
  refine hx1.mono ?_
  rintro r w3 ⟨rfl, bs3, hw3, hk3, hs3⟩
  clear hx1 hw0
  go_wp2_with (fail)
  have hx2 := wnumber_ok hw3 n (by omega) (by simp [Pure.fix_len])
  refine hx2.mono ?_
  rintro r w4 ⟨rfl, bs4, hw4, hk4, hs4⟩
  clear hx2 hw3
  have e4 : [] ++ Pure.fix 84 1 ++ Pure.enc n = [84, UInt8.ofNat n] := by rw [Pure.enc_small (by omega)]; rfl
  rw [e4] at hw4
  have hb4 : Below w.heap.size w w4 := (hb0.trans (hk3.below hb0.size (by simp; omega))).trans (hk4.below (Nat.le_trans hb0.size hk3.size) (by simp; omega))
  have hBS : ∀ g, g ∈ bs4 → w.heap.size ≤ g := fun g hg => by
    rcases hs4 g hg with h | h
    · rcases hs3 g h with h | h
      · simp at h
      · exact Nat.le_trans hb0.size h
    · exact Nat.le_trans (Nat.le_trans hb0.size hk3.size) h
  clear hs3 hs4 hk3 hk4 hb0 hb1 hB w1 w2 w3 bs3 e4
  have H4 : Hid (Wr w4 B bs4 [84, UInt8.ofNat n] ∧ Below w.heap.size w w4 ∧ ∀ g, g ∈ bs4 → w.heap.size ≤ g) := ⟨hw4, hb4, hBS⟩
  clear hw4 hb4 hBS
  go_wp2_with (fail)
  go_loopw [16] (fun x wr => ∃ (k : Nat) (bs : List Nat), k ≤ n ∧ x = .int .i64 k ∧ Hid (Wr wr B bs ([84, UInt8.ofNat n] ++ (L.take k).flatMap Tn.encE)) ∧ Hid (Below w.heap.size w wr ∧ ∀ g, g ∈ bs → w.heap.size ≤ g)) (fun x wr => n - (intOf x).toNat)
  case atStart => exact ⟨0, bs4, Nat.zero_le _, rfl, by show Wr _ _ _ _; simpa using H4.out.1, H4.out.2⟩
  case round =>
    obtain ⟨k, bs, hk, rfl, HW, HB⟩ := hrel
    have hlen : ([84, UInt8.ofNat n] ++ (L.take k).flatMap Tn.encE).length ≤ 2 + 66 * 32 := by
      have := HFL.out k (by rw [HN.out]; exact hk)
      simp only [List.length_append, List.length_cons, List.length_nil]; omega
    by_cases hlt : k < n
    · obtain rfl : ao = some ⟨b, off, none⟩ := by rcases hao with h | h; · omega
                                                  · exact h
      have hkl : k < L.length := by rw [HN.out]; exact hlt
      obtain ⟨_, _, hx, hrg, hok⟩ := (HL.out.below HB.out.1) k hkl
      cases hx
      obtain ⟨t1, t3, tn⟩ := HTA.out k hkl
      have HF : Hid ((L.take (k + 1)).flatMap Tn.encE = (L.take k).flatMap Tn.encE ++ Tn.encE (L.getD k ent0)) := Tn.flat_snoc L k hkl
      generalize L.getD k ent0 = e at *
      have hnz := new_zero wr
      have hil : (Tryd.prog.info? 42).map (·.size) = some e.cells.length := by rw [hok.len]; exact Tryd.infoEntry
      have hia : (Tryd.prog.info? 42).map (·.size) = some e.cells.toArray.size := by rw [ent_size hok]; exact Tryd.infoEntry
      have hzs := zero_size hok
      have hal := ent_all e
      have hWb := withEnt_below wr e
      have hWs := withEnt_size wr e
      have hWr := ent_range (withEnt_row wr e)
      have hwB := HW.out.lt
      have hWw := HW.out.kept (Kept.of_below hWb) (by simp) (by simp)
      have hBW := HB.out.1.trans (hWb.mono HB.out.1.size)
      obtain ⟨kd, hkd⟩ : ∃ kd : Nat, e.kind = kd := ⟨e.kind.toNat, by omega⟩
      have hf := wfixed_ok hWw kd 1 (by omega) (by omega) (by omega) (by omega)
      have c1 := hWr 1 _ rfl
      rw [hkd, Nat.zero_add] at c1
      have HOK : Hid (EntOk e ∧ e.kind = kd ∧ e.name.length ≤ 32) := ⟨hok, hkd, tn⟩
      have HR : Hid ((withEnt wr e).rangeAt wr.heap.size 0 e.cells ∧ Below w.heap.size w (withEnt wr e) ∧ (withEnt wr e).heap.size = wr.heap.size + 1 ∧ B < wr.heap.size) := ⟨hWr, hBW, hWs, hwB⟩
      have HLen := hide hlen
      clear hok hkd tn t1 t3 hWw hBW hWb hWs hWr hlen
      go_upto_region 9 with (first | refine wpList_load_mid rfl 42 (.tmp 18) rfl b (off + k * 34) rfl e.cells _ hrg Tryd.underlying42 rfl hil ?_ | refine wpList_store_rowTo rfl 42 (.tmp 6) (.tmp 19) rfl rfl wr.heap.size e.cells.toArray rfl rfl 42 zeroE hnz hia hzs hal ?_)
      have hW : (wr.alloc (.cells zeroE 42)).setRow wr.heap.size e.cells.toArray = withEnt wr e := rfl
      rw [hW]
      clear hrg hil hia hzs hal hnz hW
      generalize withEnt wr e = W at *
      obtain ⟨V, hV⟩ : ∃ V, wr.heap.size = V := ⟨_, rfl⟩
      simp only [hV] at *
      have s32 := fun W => Tryd.slice32 W V 2
      have hVB : V ≠ B := by omega
      have HVB := hide hVB
      clear hVB
      go_wp2_with (first
        | (go_at_call 16; refine hf.mono ?_; rintro r w5 ⟨rfl, bs5, hw5, hk5, hs5⟩
           have hR5 : w5.rangeAt V 0 e.cells := fun j v hv => hk5.cellOf (HR.out.1 j v hv) (by have := HVB.out; simp; omega)
           have c0 := hR5 0 _ rfl
           rw [Nat.zero_add] at c0
           obtain ⟨cc, w6, hrun, hcc, hsl, hk6, hs6⟩ := of_str w5 e.name
           have htx := wtext_ok (hw5.kept hk6 (by simp) (by simp)) (some ⟨w5.heap.size, 0, none⟩) e.name.length cc e.name rfl hsl (by rintro a ⟨⟩; have := hk5.size; have := HR.out.2.2; show w5.heap.size ≠ B; omega) hcc (by have := HLen.out; have := HOK.out.2.2; simp only [List.length_append, Pure.fix_len] at *; omega) (by have := HOK.out.2.2; omega)
           have H5 : Hid (w6.rangeAt V 0 e.cells ∧ Kept [B] W w6 ∧ ∀ g, g ∈ bs5 → g ∈ bs ∨ W.heap.size ≤ g) := ⟨fun j v hv => hk6.cellOf (hR5 j v hv) (by simp), hk5.trans hk6 (by simp), hs5⟩
           clear hf c1 hw5 hk5 hs5 hR5 hcc hsl hk6 hs6)
        | (go_at_call 18; refine htx.mono ?_; rintro r w7 ⟨rfl, bs7, hw7, hk7, hs7⟩
           have hR7 : w7.rangeAt V 0 e.cells := fun j v hv => hk7.cellOf (H5.out.1 j v hv) (by have := HVB.out; simp; omega)
           have hs2 : Sl w7 (some ⟨V, 2, none⟩) e.id := Sl.of fun i hi => by
             have := hR7 (i + 2) (.int .u8 (e.id.getD i 0).toNat) (by simp only [Ent.cells, List.getElem?_cons_succ]; exact bys_at hi)
             rw [Nat.zero_add, Nat.add_comm] at this; exact this
           have hrw := wraw_ok hw7 (some ⟨V, 2, none⟩) 32 32 e.id HOK.out.1.idl hs2 (by rintro a ⟨⟩; exact HVB.out) (by rw [HOK.out.1.idl]; omega) (by have := HLen.out; have := HOK.out.2.2; have := Pure.enc_len5 (v := e.name.length) (by omega); have := HOK.out.1.idl; simp only [List.length_append, Pure.fix_len] at *; omega)
           have H7 : Hid (Kept [B] W w7 ∧ ∀ g, g ∈ bs7 → g ∈ bs ∨ W.heap.size ≤ g) := ⟨H5.out.2.1.trans hk7 (by simp), fun g hg => by
             rcases hs7 g hg with h | h
             · exact H5.out.2.2 g h
             · exact .inr (Nat.le_trans H5.out.2.1.size h)⟩
           clear htx hw7 hk7 hs7 H5 hR7 hs2 c0 hrun)
        | (go_at_call 19; refine hrw.mono ?_; rintro r w8 ⟨rfl, bs8, hw8, hk8, hs8⟩
           have H8 : Hid (Wr w8 B bs8 _ ∧ Kept [B] W w8 ∧ ∀ g, g ∈ bs8 → g ∈ bs ∨ W.heap.size ≤ g) := ⟨hw8, H7.out.1.trans hk8 (by simp), fun g hg => by
             rcases hs8 g hg with h | h
             · exact H7.out.2 g h
             · exact .inr (Nat.le_trans H7.out.1.size h)⟩
           clear hrw hw8 hk8 hs8 H7))
      go_roundw
      case rel =>
        refine ⟨k + 1, bs8, by omega, by go_num, ?_, ?_⟩
        · show Wr _ _ _ _
          have := H8.out.1
          rw [HF.out]
          have e1 : [84, UInt8.ofNat n] ++ ((L.take k).flatMap Tn.encE ++ Tn.encE e) = [84, UInt8.ofNat n] ++ (L.take k).flatMap Tn.encE ++ Pure.fix kd 1 ++ Pure.enc e.name.length ++ e.name ++ e.id := by
            rw [Pure.enc_small (by have := HOK.out.2.2; omega)]
            have hf1 : Pure.fix kd 1 = [UInt8.ofNat kd] := by
              simp only [Pure.fix, Nat.pow_zero, Nat.div_one]
              rw [UInt8.ofNat_mod_size]
            rw [hf1]
            simp [Tn.encE, HOK.out.2.1]
          rw [e1]; exact this
        · refine ⟨HR.out.2.1.trans (H8.out.2.1.below HR.out.2.1.size (by simp; omega)), fun g hg => ?_⟩
          rcases H8.out.2.2 g hg with h | h
          · exact HB.out.2 g h
          · exact Nat.le_trans HR.out.2.1.size h
      case measure => simp [intOf]; omega
    · obtain rfl : k = n := by omega
      have he : [84, UInt8.ofNat k] ++ (L.take k).flatMap Tn.encE = Tn.encT L := by
        rw [List.take_of_length_le (by rw [HN.out]; exact Nat.le_refl _)]
        simp [Tn.encT, HN.out]
      have hw := HW.out
      rw [he] at hw hlen
      obtain ⟨X, hX⟩ : ∃ X, Tn.encT L = X := ⟨_, rfl⟩
      rw [hX] at hw hlen
      have HX := hide hX
      have hd := wdata_own hw (by omega)
      clear hX he hw HW hlen
      go_wp2_with (go_at_call 20; refine hd.mono ?_; rintro r w5 ⟨ao', cap', rfl, hfr, hne, hk5, how⟩; have HO := hide (And.intro hk5 how); clear hd hfr hne hk5 how)
      go_ret2
      refine ⟨⟨_, rfl, ?_⟩, HB.out.1.trans (HO.out.1.below HB.out.1.size (by simp))⟩
      rw [HX.out]
      exact own_base HO.out.2 HB.out.1.size
/-- tree.Encode. -/
theorem encode_ok (ao : Option Addr) (n cap : Nat) (L : List Ent) (w : World) (hn : L.length = n) (hnc : n ≤ cap) (hcm : n ≤ 4611686018427387904) (hL : Ents w ao L) (hT : Tabs w) :
    Calls Tryd.prog 5 #[.slice ao n cap] w fun r w' => Told w w' r (Tn.isTree L) (Tn.encd L) := by
  by_cases ht : Tn.isTree L = true
  · have he : Tn.encd L = Tn.encT L := by simp [Tn.encd, ht]
    rw [he, ht]
    by_cases h0 : L = []
    · subst h0
      obtain rfl : n = 0 := by simpa using hn.symm
      exact encode_yes 0 0 0 cap [] w rfl hnc hcm (Ents.nil _ _) hT ht (by simp) ao (.inl rfl) hL
    · obtain ⟨b, off, rfl, hb, _⟩ := hL.open h0
      exact encode_yes b off n cap L w hn hnc hcm hL hT ht (fun _ => hb) _ (.inr rfl) hL
  · have ht' : Tn.isTree L = false := by simpa using ht
    have he : Tn.encd L = [] := by simp [Tn.encd, ht']
    rw [he, ht']
    exact encode_no ao n cap L w hn hnc hcm hL hT ht'
end Go.Proofs.YtjogfpogdjhglaaDoor
