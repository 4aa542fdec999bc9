import Derived.Test.YtmklodligplbaabGreatOlo
open Go.RowKit
set_option linter.unusedVariables false
set_option linter.unusedSimpArgs false
set_option maxRecDepth 100000
set_option maxHeartbeats 0
namespace Go.Proofs.YtmklodligplbaabGreat
section
open Dlt
def zeroW : Array Value := (wrow 0 0 none (List.replicate 64 0) 0).toArray
theorem Tryz.zeroWriter (W : World) : (zeroValue 123).run Tryz.prog W = .ok (.agg zeroW) W := by kernel_rfl
theorem wr_zero (w : World) : Wr (w.alloc (.cells zeroW 123)) w.heap.size [] [] := by
 refine ⟨⟨none, List.replicate 64 0, ⟨?_, by simp⟩, by simp, .nil⟩, by simp⟩
 rw [heap_new]
 rfl
structure Wq (w0 w : World) (B : Nat) (xs : List UInt8) : Prop where
 ex : ∃ bs, Wr w B bs xs ∧ ∀ g, g ∈ bs -> w0.heap.size <= g
 kp : Kept [] w0 w
 ge : w0.heap.size <= B
theorem Wq.lt {w0 w : World} {B : Nat} {xs : List UInt8} (h : Wq w0 w B xs) : B < w.heap.size := by
 obtain ⟨bs, h1, _⟩ := h.ex
 exact h1.lt
theorem Wq.new {w0 w : World} (h : Kept [] w0 w) : Wq w0 (w.alloc (.cells zeroW 123)) w.heap.size [] := ⟨⟨[], wr_zero w, by simp⟩, h.alloc _, h.size⟩
theorem Wq.later {w0 w w' : World} {B : Nat} {xs : List UInt8} (h : Wq w0 w B xs) (hk : Kept [] w w') : Wq w0 w' B xs := by
 obtain ⟨bs, h1, h2⟩ := h.ex
 exact ⟨⟨bs, h1.kept hk (by simp) (by simp), h2⟩, h.kp.tr hk, h.ge⟩
theorem Wq.wrote {w0 w w' : World} {B : Nat} {bs : List Nat} {xs ys : List UInt8} (h : Wq w0 w B xs) (hb : ∀ g, g ∈ bs -> w0.heap.size <= g) (hw : Wrote w w' B bs ys) : Wq w0 w' B ys ∧ Kept [B] w w' := by
 obtain ⟨bs', h1, h2, h3⟩ := hw
 refine ⟨⟨⟨bs', h1, fun g hg => ?_⟩, h.kp.trans h2 (fun i hi hl => ?_), h.ge⟩, h2⟩
 ·rcases h3 g hg with h | h'
  ·exact hb g h
  ·exact Nat.le_trans h.kp.size h'
 ·simp only [List.mem_singleton] at hi
  have := h.ge
  omega
theorem number_q {w0 w : World} {B : Nat} {ys : List UInt8} (h : Wq w0 w B ys) (v : Nat) (hv : v <= 2147483647) (hl : ys.length <= 100000000000) :
  Calls Tryz.prog 72 #[.pointer (some ⟨B, 0, none⟩), .int .i64 v] w fun e w' => e = .returned (.tuple #[]) ∧ Wq w0 w' B (ys ++ Pure.enc v) ∧ Kept [B] w w' := by
 obtain ⟨bs, h1, h2⟩ := h.ex
 exact (wnumber_ok h1 v hv (by omega)).mono fun e w' ⟨he, hw⟩ => ⟨he, h.wrote h2 hw⟩
theorem fixed_q {w0 w : World} {B : Nat} {ys : List UInt8} (h : Wq w0 w B ys) (v n : Nat) (h1 : 1 <= n) (h4 : n <= 4) (hv : v < 256 ^ n) (hl : ys.length <= 100000000000) :
  Calls Tryz.prog 71 #[.pointer (some ⟨B, 0, none⟩), .int .i64 v, .int .i64 n] w fun e w' => e = .returned (.tuple #[]) ∧ Wq w0 w' B (ys ++ Pure.fix v n) ∧ Kept [B] w w' := by
 obtain ⟨bs, g1, g2⟩ := h.ex
 exact (wfixed_ok g1 v n h1 h4 hv (by omega)).mono fun e w' ⟨he, hw⟩ => ⟨he, h.wrote g2 hw⟩
theorem raw_q {w0 w : World} {B : Nat} {ys : List UInt8} (h : Wq w0 w B ys) (ao : Option Addr) (n cap : Nat) (xs : List UInt8) (hn : xs.length = n) (hs : Sl w ao xs) (hfar : ∀ a, ao = some a -> a.block ≠ B) (hlc : n <= cap) (hl : ys.length <= 100000000000) (hm : n <= 100000000000) :
  Calls Tryz.prog 73 #[.pointer (some ⟨B, 0, none⟩), .slice ao n cap] w fun e w' => e = .returned (.tuple #[]) ∧ Wq w0 w' B (ys ++ xs) ∧ Kept [B] w w' := by
 obtain ⟨bs, g1, g2⟩ := h.ex
 exact (wraw_ok g1 ao n cap xs hn hs hfar (by omega) (by omega)).mono fun e w' ⟨he, hw⟩ => ⟨he, h.wrote g2 hw⟩
theorem text_q {w0 w : World} {B : Nat} {ys : List UInt8} (h : Wq w0 w B ys) (ao : Option Addr) (n cap : Nat) (xs : List UInt8) (hn : xs.length = n) (hs : Sl w ao xs) (hfar : ∀ a, ao = some a -> a.block ≠ B) (hlc : n <= cap) (hl : ys.length <= 100000000000) (hm : n <= 2147483647) :
  Calls Tryz.prog 105 #[.pointer (some ⟨B, 0, none⟩), .slice ao n cap] w fun e w' => e = .returned (.tuple #[]) ∧ Wq w0 w' B (ys ++ (Pure.enc xs.length ++ xs)) ∧ Kept [B] w w' := by
 obtain ⟨bs, g1, g2⟩ := h.ex
 rw [<-List.append_assoc]
 exact (wtext_ok g1 ao n cap xs hn hs hfar (by omega) (by omega) (by omega)).mono fun e w' ⟨he, hw⟩ => ⟨he, h.wrote g2 hw⟩
theorem data_q {w0 w : World} {B : Nat} {ys : List UInt8} (h : Wq w0 w B ys) (hl : ys.length <= 100000000000) :
  Calls Tryz.prog 106 #[.pointer (some ⟨B, 0, none⟩)] w fun e w' => ∃ ao cap, e = .returned (.tuple #[.slice ao ys.length cap, .int .i64 0]) ∧ Sl w' ao ys ∧ w'.ownsRow w.heap.size 5 1 (.slice ao ys.length cap) ys.length (bys ys) ∧ Kept [] w w' := by
 obtain ⟨bs, g1, g2⟩ := h.ex
 exact (wdata_own g1 (by omega)).mono fun e w' ⟨ao, cap, he, hf, _, hk, ho⟩ => ⟨ao, cap, he, hf.1, ho, hk⟩
theorem sum_at {ao : Option Addr} {n cap : Nat} {xs : List UInt8} {w : World} (hn : xs.length = n) (hm : n <= 100000000000) (hs : Sl w ao xs) :
  Calls Tryz.prog 107 #[.slice ao n cap] w fun e w' => e = .returned (.int .i64 (Pure.sum xs)) ∧ Kept [] w w' :=
 (sum_n ao n cap xs w hn (by omega) hs).mono fun e w' ⟨he, hb⟩ => ⟨he, Kept.of_below hb⟩
def RowB (w w' : World) (e : Ending) (xs : List UInt8) : Prop := ∃ ao cap, e = .returned (.slice ao xs.length cap) ∧ w'.ownsRow w.heap.size 5 1 (.slice ao xs.length cap) xs.length (bys xs)
theorem summed_ok {w0 w : World} {B : Nat} {xs : List UInt8} (h : Wq w0 w B xs) (hl : xs.length <= 10000000) :
  Calls Tryz.prog 75 #[.pointer (some ⟨B, 0, none⟩)] w fun e w' => RowB w w' e (sealed xs) ∧ Kept [B] w w' := by
 have hd := data_q h (by omega)
 have hs4 : Pure.sum xs < 256 ^ 4 := by unfold Pure.sum; omega
 have H := hide h
 have HL := hide hl
 have HS4 := hide hs4
 clear h hl hs4
 obtain ⟨m, hm⟩ := nm (xs.length)
 rw [hm] at hd
 have HM := hide hm
 clear hm
 go_enter Tryz.func75, Tryz.ntmps75
 go_upto_region 2 with (go_at_call 106; refine hd.mono ?_; rintro r w1 ⟨ao1, cap1, rfl, hs1, ho1, hk1⟩; have H1 := hide (ai hs1 hk1); clear hd ho1 hs1 hk1)
 have hsm := sum_at (cap := cap1) HM.out (by have := HL.out; have := HM.out; omega) H1.out.1
 obtain ⟨v, hv⟩ := nm (Pure.sum xs)
 rw [hv] at hsm
 have HV := hide hv
 clear hv
 go_upto_region 3 with (first
  | (go_at_call 107; refine hsm.mono ?_; rintro r w2 ⟨rfl, hk2⟩; have H2 := hide (H.out.later (H1.out.2.tr hk2)); have hfx := fixed_q H2.out v 4 (by omega) (by omega) (by have := HS4.out; rw [HV.out] at this; exact this) (by have := HL.out; omega); have HK2 := hide (H1.out.2.tr hk2); clear hsm hk2)
  | (go_at_call 71; refine hfx.mono ?_; rintro r w3 ⟨rfl, hq3, hk3⟩; have H3 := hide (ai hq3 hk3); clear hfx hq3 hk3))
 have hd3 := data_q H3.out.1 (by have := HL.out; simp only [List.length_append, Pure.fix_len]; omega)
 have HE : Hid (sealed xs = xs ++ Pure.fix v 4) := by show _ = _; unfold sealed; rw [HV.out]
 generalize xs ++ Pure.fix v 4 = ys at hd3 HE H3
 obtain ⟨m3, hm3⟩ : ∃ m, ys.length = m := ⟨_, rfl⟩
 rw [hm3] at hd3
 have HM3 := hide hm3
 clear hm3
 go_wp2_with (go_at_call 106; refine hd3.mono ?_; rintro r w4 ⟨ao4, cap4, rfl, hs4, ho4, hk4⟩; have H4 := hide (ai ho4 hk4); clear hd3 ho4 hs4 hk4)
 go_ret
 have k1 : Kept [B] w w3 := (HK2.out.mono (by simp)).tr H3.out.2
 refine ⟨⟨ao4, cap4, ?_, ?_⟩, k1.tr H4.out.2⟩
 ·rw [HE.out, HM3.out]; rfl
 ·rw [HE.out, HM3.out]; exact own_base H4.out.1 k1.size
theorem Tryz.sliceIDo (W : World) (b o : Nat) (n : Nat) (hn : n <= 32) :
  (Instr.sliceAt 23 (.pointer (some ⟨b, o, none⟩)) none (some (.int .i64 n)) none).run Tryz.prog W = .ok (.slice (some ⟨b, o, none⟩) n 32) W := by
 have ha : Tryz.prog.arrayLen 23 = 32 := by kernel_rfl
 have hz : (sizeOf (Tryz.prog.elem 23)).run Tryz.prog W = .ok 1 W := by kernel_rfl
 have h := run_sliceAt_array_h (P := Tryz.prog) W 23 ⟨b, o, none⟩ (by kernel_rfl) .i64 n (by omega) (by rw [ha]; omega)
 rw [h, hz, ha]
 simp [slicedAt, Addr.add_mid]
end

section
open Dlt
def TellB (w w' : World) (e : Ending) (c : Int) (xs : List UInt8) : Prop := ∃ ao cap, e = .returned (.tuple #[.slice ao xs.length cap, .int .i64 c]) ∧ w'.ownsRow w.heap.size 5 1 (.slice ao xs.length cap) xs.length (bys xs)
theorem Tryz.infoSig (s : Sig) (v : Value) : (Tryz.prog.info? 26).map (·.size) = some (s.cells v).length := by rw [s.len]; exact Tryz.infoSigS
theorem Tryz.infoSigA (s : Sig) (v : Value) : (Tryz.prog.info? 26).map (·.size) = some (s.cells v).toArray.size := by rw [sig_size]; exact Tryz.infoSigS
def signS (w : Int) (b : List UInt8) (z : Int) : Sig := if signE w b.length z = 0 then sign w b z.toNat else sig0
def TellS (w w' : World) (e : Ending) (c : Int) (s : Sig) : Prop := ∃ v, e = .returned (.tuple #[.agg (s.cells v).toArray, .int .i64 c]) ∧ OwnW w' w.heap.size v s.blocks
theorem ret_row_slot {P : Program} {fn : Func} {p q : Tmp} {ty : TypeId} {R : Ending -> World -> Prop} {a : Act} {w : World} (h : fn.results = #[.cell p ty, .tmp q]) (hd : a.defers = []) (g : Nat) (t : TypeId) (cs : Array Value) (fr : Nat × Nat) (d : TypeDesc)
  (hp : a.tmps.getD p undef = .pointer (some ⟨g, 0, none⟩)) (hg : w.heap[g]? = some (.cells cs t fr)) (hu : P.underlying ty = some d) (hx : (match d with | .struct _ | .array _ _ => true | _ => false) = true) (hi : (P.info? ty).map (·.size) = some cs.size)
  (hR : R (.returned (.tuple #[.agg cs, a.tmps.getD q undef])) w) : bodyPost P fn R .ret a w := by
 refine bodyPost_ret (v := .tuple #[.agg cs, a.tmps.getD q undef]) ?_ hd hR
 have hp' : a.tmps[p]?.getD undef = .pointer (some ⟨g, 0, none⟩) := by simpa using hp
 rw [results_cell_tmp h]
 simp [hp', asAddr, run_loadVar_row w g t ty cs fr d hg hu hx hi]
theorem Tryz.builtSigZ (W : World) : (Instr.build 26 #[]).run Tryz.prog W = .ok (.agg zeroS) W := by kernel_rfl
theorem Tryz.builtSig0 (f : Nat -> UInt8) (a b c : Int) (W : World) : (Instr.build 26 #[(0, .int .i64 a), (1, .int .i64 b), (2, .int .i64 c), (3, .agg (bys ((List.range 32).map f)).toArray)]).run Tryz.prog W = .ok (.agg (.int .i64 a :: .int .i64 b :: .int .i64 c :: (bys ((List.range 32).map f) ++ [.slice none 0 0])).toArray) W := by kernel_rfl
theorem Tryz.builtSig (s : Sig) (W : World) : (Instr.build 26 #[(0, .int .i64 s.width), (1, .int .i64 s.size), (2, .int .i64 s.length), (3, .agg (bys s.base).toArray)]).run Tryz.prog W = .ok (.agg (s.cells (.slice none 0 0)).toArray) W := by
 have h := Tryz.builtSig0 (fun i => s.base.getD i 0) s.width s.size s.length W
 rw [range32 s.hb] at h
 exact h
theorem made_wrows (c : Nat) : madeCells (Value.agg zeroK).cells (c * 33) = (wrows (List.replicate c wk0)).toArray := by
 apply Array.ext
 ·simp [size_madeCells, wrows_len]
 ·intro i h1 h2
  have h3 : i % 33 < 33 := Nat.mod_lt _ (by omega)
  have h4 : (wrows (List.replicate c wk0))[i]? = some ((wrows (List.replicate c wk0)).toArray[i]) := by simp at h2 ⊢
  obtain ⟨h5, h6⟩ := wrows_back h4
  have e : (List.replicate c wk0).getD (i / 33) wk0 = wk0 := by
   rw [List.length_replicate] at h5
   simp [List.getD, List.getElem?_replicate, h5]
  rw [e] at h6
  simp only [madeCells, Array.getElem_map, Array.getElem_range]
  show zeroK[i % 33]! = _
  have h7 : i % 33 < zeroK.size := h3
  rw [getElem!_pos zeroK _ h7]
  have h8 : zeroK[i % 33]? = some (zeroK[i % 33]) := Array.getElem?_eq_getElem h7
  have h9 : zeroK[i % 33]? = wk0.cells[i % 33]? := by show wk0.cells.toArray[i % 33]? = _; simp
  rw [h9, h6] at h8
  exact (Option.some.inj h8).symm
theorem run_makeW (w : World) (c : Nat) (h : c <= 1000000) : (Instr.makeSlice 24 (.int .i64 c) (.int .i64 c)).run Tryz.prog w = .ok (.slice (some ⟨w.heap.size, 0, none⟩) c c) (w.alloc (.cells (wrows (List.replicate c wk0)).toArray 62)) := by
 obtain ⟨i0, hi, hz0, hz1, hz2⟩ := info_parts Tryz.infoWeak
 have hmk := run_make (P := Tryz.prog) w 24 62 i0 (.agg zeroK) Tryz.underlying24 hi hz0 .i64 .i64 c c (by omega) (by omega) (by rw [hz2]; omega) (by omega)
 rw [hz1] at hmk
 simp only [Int.toNat_natCast] at hmk
 rw [hmk, made_wrows]
structure Fil (w wr : World) (gB c : Nat) (L : List Wk) : Prop where
 row : wr.heap[gB]? = some (.cells (wrows (L ++ List.replicate (c - L.length) wk0)).toArray 62 (0, 0))
 ge : w.heap.size <= gB
theorem Fil.start {w w1 : World} (h : Kept [] w w1) (c : Nat) : Fil w (w1.alloc (.cells (wrows (List.replicate c wk0)).toArray 62)) w1.heap.size c [] := ⟨by rw [heap_new]; rfl, h.size⟩
theorem Fil.kept {l : List Nat} {w w1 w2 : World} {gB c : Nat} {L : List Wk} (h : Fil w w1 gB c L) (hk : Kept l w1 w2) (hn : gB ∉ l) : Fil w w2 gB c L := ⟨(hk.block gB (gs h.row).1 hn).trans h.row, h.ge⟩
theorem Fil.step {w w1 : World} {gB c : Nat} {L : List Wk} (h : Fil w w1 gB c L) (e : Wk) (hl : L.length < c) : w1.there gB (L.length * 33) 33 ∧ Fil w (w1.setCells gB (L.length * 33) e.cells) gB c (L ++ [e]) ∧ Kept [gB] w1 (w1.setCells gB (L.length * 33) e.cells) := by
 have hlen : (wrows (L ++ List.replicate (c - L.length) wk0)).length = c * 33 := by rw [wrows_len, List.length_append, List.length_replicate]; congr 1; omega
 have hle : L.length * 33 + 33 <= c * 33 := by omega
 refine ⟨there_row h.row _ _ (by rw [List.size_toArray, hlen]; exact hle), ⟨?_, h.ge⟩, kept_setCells _ _ _ _ _ (Kept.refl _ _) (by simp)⟩
 rw [setCells_row _ _ _ _ _ _ h.row (by rw [e.len, hlen]; exact hle), setRow_heap _ _ _ _ _ _ h.row, e.len]
 congr 3
 have e1 : c - L.length = (c - (L.length + 1)) + 1 := by omega
 rw [e1, List.replicate_succ, show L ++ wk0 :: List.replicate (c - (L.length + 1)) wk0 = L ++ ([wk0] ++ List.replicate (c - (L.length + 1)) wk0) from rfl, wrows_app, wrows_app]
 have l1 : (wrows L).length = L.length * 33 := wrows_len L
 have l2 : (wrows [wk0]).length = 33 := by rw [wrows_len]; rfl
 rw [List.take_append_of_le_length (by omega), List.take_of_length_le (by omega), List.drop_append, List.drop_of_length_le (by omega), List.nil_append, l1, show L.length * 33 + 33 - L.length * 33 = 33 by omega, List.drop_append, List.drop_of_length_le (by omega), List.nil_append, l2]
 rw [List.length_append, List.length_singleton, wrows_app, wrows_app, List.append_assoc]
 congr 1
 show e.cells ++ _ = wrows [e] ++ _
 congr 1
 simp [wrows]
theorem Fil.own {w w1 : World} {gB c : Nat} {L : List Wk} (h : Fil w w1 gB c L) (hl : L.length = c) (hc : c <= 1000000) : OwnW w1 w.heap.size (.slice (some ⟨gB, 0, none⟩) c c) L := by
 have hrow := h.row
 rw [hl, Nat.sub_self, List.replicate_zero, List.append_nil] at hrow
 refine ⟨by rw [wrows_len], .inr ⟨gB, c, (wrows L).toArray, by rw [hl], h.ge, hrow, by omega, by unfold maxLen; omega, ?_, ?_⟩⟩
 ·simp [wrows_len, hl]
 ·show (wrows L).toArray.toList.take (L.length * 33) = wrows L
  rw [List.toList_toArray, List.take_of_length_le (by rw [wrows_len]; exact Nat.le_refl _)]
theorem sign_bad (width : Int) (ao : Option Addr) (n cap : Nat) (size : Int) (xs : List UInt8) (w : World) (hn : xs.length = n) (hbad : (Dlt.isW width && Dlt.isZ size) = false) :
  Calls Tryz.prog 13 #[.int .i64 width, .slice ao n cap, .int .i64 size] w fun e w' => TellS w w' e (signE width n size) (signS width xs size) ∧ Kept [] w w' := by
 have HE : Hid (signE width n size = 1) := by show _ = _; unfold signE; rw [if_pos hbad]
 have HS : Hid (signS width xs size = sig0) := by show _ = _; unfold signS; rw [hn, HE.out]; rfl
 have hz := Tryz.zeroSig
 have hbz := Tryz.builtSigZ
 have hnz : (w.alloc (.cells zeroS 26)).heap[w.heap.size]? = some (.cells zeroS 26 (0, 0)) := heap_new w _
 have hK : Kept [] w ((w.alloc (.cells zeroS 26)).setRow w.heap.size zeroS) := ((Kept.refl [] w).alloc _).tr (kept_row _ _ _)
 have hi0 : (Tryz.prog.info? 26).map (·.size) = some zeroS.size := Tryz.infoSigA sig0 (.slice none 0 0)
 have ha0 : zeroS.all (·.oneCell') = true := sig_one sig0 _ rfl
 have h1 := isWidth_ok width (w.alloc (.cells zeroS 26))
 have h2 := isSize_ok size (w.alloc (.cells zeroS 26))
 generalize Dlt.isW width = b1 at h1 hbad
 generalize Dlt.isZ size = b2 at h2 hbad
 have FIN : TellS w ((w.alloc (.cells zeroS 26)).setRow w.heap.size zeroS) (.returned (.tuple #[.agg zeroS, .int .i64 1])) (signE width n size) (signS width xs size) := by
  rw [HE.out, HS.out]
  exact ⟨.slice none 0 0, rfl, World.ownsRow_nil _ _ _ _⟩
 cases b1 with
 | false =>
  clear hbad
  go_enter Tryz.func13, Tryz.ntmps13
  go_wp2_with (first
   | (go_at_call 43; refine h1.mono ?_; rintro r w' ⟨rfl, hw⟩; obtain rfl := hw.symm)
   | refine wpList_buildRun8 rfl 26 #[] rfl #[] rfl _ (hbz _) ?_
   | refine wpList_store_rowTo rfl 26 (.tmp 6) (.tmp 17) rfl rfl w.heap.size zeroS rfl rfl 26 zeroS hnz hi0 rfl ha0 ?_)
  exact ret_row_slot rfl rfl w.heap.size 26 zeroS (0, 0) _ rfl (setRow_heap _ _ _ _ _ _ hnz) Tryz.underlying26 rfl hi0 ⟨FIN, hK⟩
 | true =>
  cases b2 with
  | true => simp at hbad
  | false =>
   clear hbad
   go_enter Tryz.func13, Tryz.ntmps13
   go_wp2_with (first
    | (go_at_call 43; refine h1.mono ?_; rintro r w' ⟨rfl, hw⟩; obtain rfl := hw.symm)
    | (go_at_call 44; refine h2.mono ?_; rintro r w' ⟨rfl, hw⟩; obtain rfl := hw.symm)
    | refine wpList_buildRun8 rfl 26 #[] rfl #[] rfl _ (hbz _) ?_
    | refine wpList_store_rowTo rfl 26 (.tmp 6) (.tmp 17) rfl rfl w.heap.size zeroS rfl rfl 26 zeroS hnz hi0 rfl ha0 ?_)
   exact ret_row_slot rfl rfl w.heap.size 26 zeroS (0, 0) _ rfl (setRow_heap _ _ _ _ _ _ hnz) Tryz.underlying26 rfl hi0 ⟨FIN, hK⟩
theorem wrap64 {v : Int} (h1 : -9223372036854775808 <= v) (h2 : v <= 9223372036854775807) : IntKind.i64.wrap v = v := by
 simp [IntKind.wrap, IntKind.bits, IntKind.signed]
 omega
theorem cut2 (W : World) (b off L cap l h m : Nat) (h1 : l <= h) (h2 : h <= L) (h3 : L <= cap) (hm : l + m = h) (h4 : l < cap := by omega) :
  (Instr.slice 27 (.slice (some ⟨b, off, none⟩) L cap) (some (.int .i64 l)) (some (.int .i64 h)) none).run Tryz.prog W = .ok (.slice (some ⟨b, off + l, none⟩) m (cap - l)) W := by
 have hz : (sizeOf (Tryz.prog.elem 27)).run Tryz.prog W = .ok 1 W := by kernel_rfl
 have hx := run_slice_lh (P := Tryz.prog) W 27 (some ⟨b, off, none⟩) L cap (by kernel_rfl) .i64 .i64 l h (by omega) (by omega) (by omega)
 rw [hx, hz]
 simp [sliced, Addr.add_mid]
 omega
theorem sign_in (width : Int) (ao : Option Addr) (n cap Z : Nat) (xs : List UInt8) (w : World) (hn : xs.length = n) (hc : n <= cap) (hs : Sl w ao xs) (hgood : (Dlt.isW width && Dlt.isZ Z) = true) (hmx : n <= 9223372036854775807) :
  Calls Tryz.prog 13 #[.int .i64 width, .slice ao n cap, .int .i64 Z] w fun e w' => TellS w w' e (signE width n Z) (signS width xs Z) ∧ Kept [] w w' := by
 have hz := Tryz.zeroSig
 have hbz := Tryz.builtSigZ
 have hnz : (w.alloc (.cells zeroS 26)).heap[w.heap.size]? = some (.cells zeroS 26 (0, 0)) := heap_new w _
 have hK0 := ka w (.cells zeroS 26)
 have hi0 : (Tryz.prog.info? 26).map (·.size) = some zeroS.size := Tryz.infoSigA sig0 (.slice none 0 0)
 have ha0 : zeroS.all (·.oneCell') = true := sig_one sig0 _ rfl
 have h1 := isWidth_ok width (w.alloc (.cells zeroS 26))
 have h2 := isSize_ok Z (w.alloc (.cells zeroS 26))
 have HSE : Hid (signE width n Z = if 131072 < n then 2 else if 2048 < (n : Int) / (Z : Int) then 183 else 0) := by
  show _ = _
  unfold signE; rw [hgood, if_neg (by simp)]
 rw [Bool.and_eq_true] at hgood
 rw [hgood.1] at h1
 rw [hgood.2] at h2
 have hz2 := hgood.2
 rw [isZ, Dlt.within_iff] at hz2
 have hz16 : 16 <= Z := by omega
 have hz40 : Z <= 4096 := by omega
 have HN := hide hn
 have HS := hide hs
 have HC := hide hc
 clear hgood hz2 hn hs hc
 obtain ⟨R, hR⟩ := nm (w.heap.size)
 rw [hR] at hnz
 by_cases hlong : 131072 < n
 ·have HE : Hid (signE width n Z = 2) := by show _ = _; rw [HSE.out, if_pos hlong]
  have HSS : Hid (signS width xs Z = sig0) := by show _ = _; unfold signS; rw [HN.out, HE.out]; rfl
  have hlz : (131072 : Int) < (n : Int) := by omega
  have hK : Kept [] w ((w.alloc (.cells zeroS 26)).setRow R zeroS) := hK0.trans (kept_row _ _ _) (by simp; omega)
  have FIN : TellS w ((w.alloc (.cells zeroS 26)).setRow R zeroS) (.returned (.tuple #[.agg zeroS, .int .i64 2])) (signE width n Z) (signS width xs Z) := by
   rw [HE.out, HSS.out]
   exact ⟨.slice none 0 0, rfl, World.ownsRow_nil _ _ _ _⟩
  clear hlong
  go_enter Tryz.func13, Tryz.ntmps13
  go_wp2_with (first
   | (go_at_call 43; refine h1.mono ?_; rintro r w' ⟨rfl, hw⟩; obtain rfl := hw.symm)
   | (go_at_call 44; refine h2.mono ?_; rintro r w' ⟨rfl, hw⟩; obtain rfl := hw.symm)
   | refine wpList_buildRun8 rfl 26 #[] rfl #[] rfl _ (hbz _) ?_
   | refine wpList_store_rowTo rfl 26 (.tmp 6) (.tmp 22) rfl rfl R zeroS rfl rfl 26 zeroS hnz hi0 rfl ha0 ?_)
  exact ret_row_slot rfl rfl R 26 zeroS (0, 0) _ rfl (setRow_heap _ _ _ _ _ _ hnz) Tryz.underlying26 rfl hi0 ⟨FIN, hK⟩
 ·have hlz : ¬ (131072 : Int) < (n : Int) := by omega
  obtain ⟨c, hcq⟩ := nm (n / Z)
  have hcn : c <= 131072 := by rw [<-hcq]; exact Nat.le_trans (Nat.div_le_self _ _) (by omega)
  have hdiv : (n : Int).tdiv (Z : Int) = (c : Int) := by rw [<-hcq, Int.ofNat_tdiv]
  have hdiv2 : (n : Int) / (Z : Int) = (c : Int) := by rw [<-hcq, Int.natCast_ediv]
  have hzz : (Z : Int) ≠ 0 := by omega
  have hz0 : ((Z : Int) == 0) = false := by simp; omega
  have HCQ := hide hcq
  clear hcq
  by_cases hmany : 2048 < c
  ·have HE : Hid (signE width n Z = 183) := by show _ = _; rw [HSE.out, if_neg hlong, hdiv2, if_pos (by omega)]
   have HSS : Hid (signS width xs Z = sig0) := by show _ = _; unfold signS; rw [HN.out, HE.out]; rfl
   have hmz : (2048 : Int) < (c : Int) := by omega
   have hK : Kept [] w ((w.alloc (.cells zeroS 26)).setRow R zeroS) := hK0.trans (kept_row _ _ _) (by simp; omega)
   have FIN : TellS w ((w.alloc (.cells zeroS 26)).setRow R zeroS) (.returned (.tuple #[.agg zeroS, .int .i64 183])) (signE width n Z) (signS width xs Z) := by
    rw [HE.out, HSS.out]
    exact ⟨.slice none 0 0, rfl, World.ownsRow_nil _ _ _ _⟩
   clear hlong hmany hdiv2
   go_enter Tryz.func13, Tryz.ntmps13
   go_wp2_with (first
    | (go_at_call 43; refine h1.mono ?_; rintro r w' ⟨rfl, hw⟩; obtain rfl := hw.symm)
    | (go_at_call 44; refine h2.mono ?_; rintro r w' ⟨rfl, hw⟩; obtain rfl := hw.symm)
    | refine wpList_buildRun8 rfl 26 #[] rfl #[] rfl _ (hbz _) ?_
    | refine wpList_store_rowTo rfl 26 (.tmp 6) (.tmp 29) rfl rfl R zeroS rfl rfl 26 zeroS hnz hi0 rfl ha0 ?_)
   exact ret_row_slot rfl rfl R 26 zeroS (0, 0) _ rfl (setRow_heap _ _ _ _ _ _ hnz) Tryz.underlying26 rfl hi0 ⟨FIN, hK⟩
  ·have HE : Hid (signE width n Z = 0) := by show _ = _; rw [HSE.out, if_neg hlong, hdiv2, if_neg (by omega)]
   have HSS : Hid (signS width xs Z = sign width xs Z) := by show _ = _; unfold signS; rw [HN.out, HE.out]; rfl
   have hmz : ¬ (2048 : Int) < (c : Int) := by omega
   have hn2 : n <= 131072 := by omega
   have hc2 : c <= 2048 := by omega
   obtain ⟨sg, hsg⟩ := nm (sign width xs Z)
   have hb1 := Tryz.builtSig sg
   have e1 : sg.width = width := by rw [<-hsg]; rfl
   have e2 : sg.size = (Z : Int) := by rw [<-hsg]; rfl
   have e3 : sg.length = (n : Int) := by rw [<-hsg]; show ((xs.length : Nat) : Int) = _; rw [HN.out]
   have e4 : sg.base = Sha.ident width xs := by rw [<-hsg]; rfl
   have HBL : Hid (sg.blocks = weaks width Z xs c) := by show _ = _; rw [<-hsg]; show weaks width Z xs (xs.length / Z) = _; rw [HN.out, HCQ.out]
   simp only [e1, e2, e3, e4] at hb1
   have HSG := hide hsg
   clear hlong hmany hdiv2 hcn e1 e2 e3 e4 hsg
   have hRl : R < (w.alloc (.cells zeroS 26)).heap.size := by rw [<-hR]; simp
   go_enter Tryz.func13, Tryz.ntmps13
   go_upto_region 8 with (first
    | (go_at_call 43; refine h1.mono ?_; rintro r w' ⟨rfl, hw⟩; obtain rfl := hw.symm)
    | (go_at_call 44; refine h2.mono ?_; rintro r w' ⟨rfl, hw⟩; obtain rfl := hw.symm))
   have HR := hide hR
   clear hR h1 h2 hlz hmz
   generalize w.alloc (.cells zeroS 26) = w0 at *
   have hof := of_one width ao n cap xs w0 HN.out HC.out (HS.out.kept hK0 (by simp)) (by omega)
   have hig := Tryz.infoSigA sg (.slice none 0 0)
   have hzg : zeroS.size = (sg.cells (.slice none 0 0)).toArray.size := by rw [sig_size]; exact sig_size _ _
   have hag := sig_one sg (.slice none 0 0) rfl
   go_upto_region 9 with (first
    | (go_at_call 45; refine hof.mono ?_; rintro r w2 ⟨rfl, hk2⟩; have H2 := hide hk2; have hnw := heap_new w2 (.cells zeroS 26); clear hof hk2)
    | refine wpList_buildRun8 rfl 26 #[(0, .tmp 30), (1, .tmp 31), (2, .tmp 33), (3, .tmp 37)] rfl #[(0, .int .i64 width), (1, .int .i64 Z), (2, .int .i64 n), (3, .agg (bys (Sha.ident width xs)).toArray)] (by simp [Act.eval]) _ (hb1 _) ?_
    | refine wpList_store_rowTo rfl 26 (.tmp 8) (.tmp 38) rfl rfl w2.heap.size (sg.cells (.slice none 0 0)).toArray rfl rfl 26 zeroS hnw hig hzg hag ?_)
   have hA : SigAt ((w2.alloc (.cells zeroS 26)).setRow w2.heap.size (sg.cells (.slice none 0 0)).toArray) w2.heap.size sg (.slice none 0 0) := ⟨setRow_heap _ _ _ _ _ _ hnw⟩
   have hk3 : Kept [] w2 ((w2.alloc (.cells zeroS 26)).setRow w2.heap.size (sg.cells (.slice none 0 0)).toArray) := ((Kept.refl [] w2).alloc _).tr (kept_row _ _ _)
   have hR2 : R < w2.heap.size := Nat.lt_of_lt_of_le hRl H2.out.size
   obtain ⟨Sb, hSb⟩ := nm (w2.heap.size)
   rw [hSb] at hA hk3 hR2 ⊢
   generalize (w2.alloc (.cells zeroS 26)).setRow Sb (sg.cells (.slice none 0 0)).toArray = w3 at hA hk3 ⊢
   have hSl := hA.lt
   have hkk : Kept [] w w3 := (hK0.tr H2.out).tr hk3
   have hkz : Kept [] w0 w3 := H2.out.tr hk3
   have hnr : w3.heap[R]? = some (.cells zeroS 26 (0, 0)) := (hkz.block R hRl (by simp)).trans hnz
   have HSb := hide hSb
   clear hSb hnw hk3 hnz hkz hRl hb1 hig hzg hag hK0
   have hmk := run_makeW w3 c (by omega)
   have hF := Fil.start hkk c
   have hk4 := ka w3 (.cells (wrows (List.replicate c wk0)).toArray 62)
   have c35 := (hA.kept hk4 (by simp)).cell (sg.cv _)
   have f35 : (w3.alloc (.cells (wrows (List.replicate c wk0)).toArray 62)).frozen? ⟨Sb, 35, none⟩ = false := frozen_of_row _ _ _ _ _ (hA.kept hk4 (by simp)).row
   obtain ⟨gB, hgB⟩ : ∃ g, w3.heap.size = g := ⟨_, rfl⟩
   go_upto_region 10 with (fail)
   rw [hgB] at hF
   have HGB := hide hgB
   clear hmk hgB
   have hA4 := hA.kept hk4 (by simp)
   have hnr4 := (hk4.block R (gs hnr).1 (by simp)).trans hnr
   have hkk4 := hkk.tr hk4
   generalize w3.alloc (.cells (wrows (List.replicate c wk0)).toArray 62) = w4 at *
   have hk5 : Kept [Sb] w4 (w4.setCell ⟨Sb, 35, none⟩ (.slice (some ⟨gB, 0, none⟩) c c)) := (Kept.refl [Sb] w4).setCell (by simp) _
   have hA5 : SigAt (w4.setCell ⟨Sb, 35, none⟩ (.slice (some ⟨gB, 0, none⟩) c c)) Sb sg (.slice (some ⟨gB, 0, none⟩) c c) := by
    refine ⟨?_⟩
    rw [heap_setCell_same w4 _ 35 _ _ _ hA4.row]
    congr 2
    apply Array.ext'
    simp only [Array.toList_setIfInBounds, List.toList_toArray]
    unfold Sig.cells
    rw [List.set_cons_succ, List.set_cons_succ, List.set_cons_succ, List.set_append_right _ _ (by rw [bys_length, sg.hb]; exact Nat.le_refl _), bys_length, sg.hb]
    rfl
   have hGS : gB ≠ Sb := by have := HGB.out; omega
   have hRS : R ≠ Sb := by omega
   have hRG : R ≠ gB := by have := HGB.out; omega
   have hF5 := hF.kept hk5 (by simpa using hGS)
   have hnr5 := (hk5.block R (gs hnr4).1 (by simpa using hRS)).trans hnr4
   have hSw : w.heap.size <= Sb := by have := HR.out; omega
   have hkk5 := hkk4.trans hk5 (fun i hi hl => by simp only [List.mem_singleton] at hi; omega)
   generalize w4.setCell ⟨Sb, 35, none⟩ (.slice (some ⟨gB, 0, none⟩) c c) = w5 at hA5 hF5 hnr5 hkk5 ⊢
   have HH := hide (ai hF5 (ai hA5 (ai hnr5 hkk5)))
   have cv5 := hA5.cell (sg.cv _)
   clear hA hF hA4 hnr4 hkk4 hk5 hF5 hA5 hnr5 hkk5 hk4 c35 f35 hnr hkk hSl
   go_wp2
   go_loopw [48] (fun x wr => ∃ k : Nat, k <= c ∧ x = .int .i64 k ∧ Hid (Fil w wr gB c (weaks width Z xs k) ∧ SigAt wr Sb sg (.slice (some ⟨gB, 0, none⟩) c c) ∧ wr.heap[R]? = some (.cells zeroS 26 (0, 0)) ∧ Kept [] w wr)) (fun x wr => c - (intOf x).toNat)
   case atStart => exact ⟨0, Nat.zero_le _, rfl, HH⟩
   case round =>
    clear HH cv5
    obtain ⟨k, hk, rfl, HP⟩ := hrel
    obtain ⟨hF, hA, hnr, hkk⟩ := HP.out
    clear HP
    by_cases hlt : k < c
    ·have cv := hA.cell (sg.cv _)
     have hkz : k * Z + Z <= n := by
      have h : (k + 1) * Z <= c * Z := Nat.mul_le_mul_right Z hlt
      rw [Nat.add_mul, Nat.one_mul] at h
      have := Nat.div_mul_le_self n Z
      rw [HCQ.out] at this
      omega
     have hxl := HN.out
     have hne : xs ≠ [] := by rintro rfl; simp at hxl; omega
     obtain ⟨b, off, rfl, hbl, hcell⟩ := HS.out.open hne
     have hbk : (xs.drop (k * Z)).take Z = blk Z xs k := rfl
     obtain ⟨f, hf⟩ := nm (k * Z)
     have hsl : Sl wr (some ⟨b, off + f, none⟩) (blk Z xs k) := by
      have := (HS.out.kept hkk (by simp)).cut f Z (by rw [hxl]; omega)
      rw [<-hf] at this ⊢
      exact this
     have hblen : (blk Z xs k).length = Z := by rw [<-hbk, List.length_take, List.length_drop, hxl]; omega
     have HWK := hide (fun W (h : Kept [] wr W) => weakOf_ok width (some ⟨b, off + f, none⟩) Z (cap - f) (blk Z xs k) W hblen (by have := HC.out; omega) (hsl.kept h (by simp)) (by omega))
     have hcut : ∀ W, (Instr.slice 27 (.slice (some ⟨b, off, none⟩) n cap) (some (.int .i64 f)) (some (.int .i64 ((f + Z : Nat) : Int))) none).run Tryz.prog W = .ok (.slice (some ⟨b, off + f, none⟩) Z (cap - f)) W := fun W => cut2 W b off n cap f (f + Z) Z (by omega) (by omega) HC.out (by omega) (by have := HC.out; omega)
     have m1 : (k : Int) * (Z : Int) = (f : Int) := by rw [<-hf]; push_cast; rfl
     have m2 : ((k : Int) + 1) * (Z : Int) = ((f + Z : Nat) : Int) := by rw [Int.add_mul, m1]; push_cast; omega
     have hfm : f + Z <= 131072 := by omega
     have hk48 : k < 2048 := by omega
     obtain ⟨f2, hf2⟩ := nm (f + Z)
     rw [hf2] at m2 hcut hfm
     have hwf : IntKind.i64.wrap (f : Int) = f := wrap64 (by omega) (by omega)
     have hwk : IntKind.i64.wrap ((k : Int) + 1) = (k : Int) + 1 := wrap64 (by omega) (by omega)
     have hwf2 : IntKind.i64.wrap (f2 : Int) = f2 := wrap64 (by omega) (by omega)
     have HST := hide (hF.step (weak width (blk Z xs k)) (by rw [weaks_len]; exact hlt))
     have HWS : Hid (weaks width Z xs (k + 1) = weaks width Z xs k ++ [weak width (blk Z xs k)]) := weaks_snoc _ _ _ _
     have HFL : Hid (∀ W, Kept [] wr W -> W.there gB (k * 33) 33 ∧ Fil w (W.setCells gB (k * 33) (weak width (blk Z xs k)).cells) gB c (weaks width Z xs (k + 1)) ∧ Kept [gB] W (W.setCells gB (k * 33) (weak width (blk Z xs k)).cells)) := fun W hW => by
      have h := (hF.kept hW (by simp)).step (weak width (blk Z xs k)) (by rw [weaks_len]; exact hlt)
      rw [weaks_len] at h
      rw [weaks_snoc]
      exact h
     generalize weak width (blk Z xs k) = e at HWK HFL
     have hiw := Tryz.infoWkA e
     have haw := wk_all e
     have hsz : e.cells.toArray.size = 33 := wk_size e
     have HO := hide (ai hA (ai hnr hkk))
     clear hf hf2 hbk hsl hblen hkz hne hcell hbl hxl hF hA hnr hkk HST HWS
     go_upto_region 13 with (fail)
     have k0 : Kept [] wr (World.drew wr) := (Kept.refl [] wr).drew
     refine wp_region_held_drew (S := fun w' => Kept [gB] wr w') (by kernel_rfl) ((Kept.refl [gB] wr).drew) (fun h0 => ?_)
     generalize World.drew wr = v0 at h0 k0 ⊢
     refine t1 0 (.pointer (some ⟨Sb, 35, none⟩)) h0 ?_
     simp only [zz]
     refine t2 1 (.slice (some ⟨gB, 0, none⟩) c c) rfl h0 ?_ (fun w hSw => by have c0 := Kept.cellOf hSw cv (by simpa using hGS.symm); go_simp)
     simp only [zz]
     refine t1 2 (.int .i64 k) h0 ?_
     simp only [zz]
     refine t1 3 (.int .i64 width) h0 ?_
     simp only [zz]
     refine t1 4 (.slice (some ⟨b, off, none⟩) n cap) h0 ?_
     simp only [zz]
     refine t1 5 (.int .i64 k) h0 ?_
     simp only [zz]
     refine t1 6 (.int .i64 Z) h0 ?_
     simp only [zz]
     refine t1 7 (.int .i64 f) h0 ?_
     simp only [zz]
     refine t1 8 (.int .i64 k) h0 ?_
     simp only [zz]
     refine t1 9 (.int .i64 ((k : Int) + 1)) h0 ?_
     simp only [zz]
     refine t1 10 (.int .i64 Z) h0 ?_
     simp only [zz]
     refine t1 11 (.int .i64 f2) h0 ?_
     simp only [zz]
     refine t2 12 (.slice (some ⟨b, off + f, none⟩) Z (cap - f)) rfl h0 ?_ (fun w hSw => by have c0 := hcut w; go_simp)
     simp only [zz]
     refine rd 13 fun K hK => ?_
     go_simp
     refine (HWK.out v0 k0).mono ?_
     rintro e v1 ⟨rfl, hq⟩
     have k1 := k0.tr hq
     refine hK.out _ _ (h0.tr hq) (fun h1 => ?_)
     clear hK K
     try simp only [zz]
     clear hq h0 k0
     refine t1 14 (.pointer (some ⟨gB, k * 33, none⟩)) h1 ?_
     simp only [zz]
     obtain ⟨hth, hfl, hkg⟩ := HFL.out v1 k1
     refine rd 15 fun K hK => ?_
     refine wp_store_mid 62 (.tmp 65) (.tmp 64) rfl gB (k * 33) e.cells.toArray rfl rfl (by rw [hsz]; exact hth) hiw haw ?_
     refine hK.out _ _ (h1.tr hkg) (fun h2 => ?_)
     clear hK K h2 h1 hth hfl hkg
     refine qd ?_
     have HN3 : Hid (SigAt (v1.setCells gB (k * 33) e.cells) Sb sg (.slice (some ⟨gB, 0, none⟩) c c) ∧ (v1.setCells gB (k * 33) e.cells).heap[R]? = some (.cells zeroS 26 (0, 0)) ∧ Kept [] w (v1.setCells gB (k * 33) e.cells)) := by
      have h3 := (HFL.out v1 k1).2.2
      have hge := (HFL.out v1 k1).2.1.ge
      refine ⟨(HO.out.1.kept k1 (by simp)).kept h3 (by simpa using hGS.symm), ?_, ?_⟩
      ·rw [h3.block R (Nat.lt_of_lt_of_le (gs HO.out.2.1).1 k1.size) (by simpa using hRG), k1.block R (gs HO.out.2.1).1 (by simp)]
       exact HO.out.2.1
      ·exact (HO.out.2.2.tr k1).trans h3 (fun i hi hl => by simp only [List.mem_singleton] at hi; omega)
     have HF3 := hide (HFL.out v1 k1).2.1
     clear HFL HO k1 cv
     generalize v1.setCells gB (k * 33) e.cells = v2 at HN3 HF3 ⊢
     go_wp2
     go_roundw
     case rel => exact ⟨k + 1, by omega, by go_num, hide ⟨HF3.out, HN3.out⟩⟩
     case measure => simp [intOf]; omega
    ·obtain rfl : k = c := by omega
     have hrg := hA.range
     have hil := Tryz.infoSig sg (.slice (some ⟨gB, 0, none⟩) k k)
     have hia := Tryz.infoSigA sg (.slice (some ⟨gB, 0, none⟩) k k)
     have hzs : zeroS.size = (sg.cells (.slice (some ⟨gB, 0, none⟩) k k)).toArray.size := by rw [sig_size]; exact sig_size _ _
     have hal := sig_one sg (.slice (some ⟨gB, 0, none⟩) k k) rfl
     have hkR : Kept [R] wr (wr.setRow R (sg.cells (.slice (some ⟨gB, 0, none⟩) k k)).toArray) := kept_row wr R _
     have hFo := (hF.kept hkR (by simpa using hRG.symm)).own (weaks_len _ _ _ _) (by omega)
     have HFIN : Hid (TellS w (wr.setRow R (sg.cells (.slice (some ⟨gB, 0, none⟩) k k)).toArray) (.returned (.tuple #[.agg (sg.cells (.slice (some ⟨gB, 0, none⟩) k k)).toArray, .int .i64 0])) (signE width n Z) (signS width xs Z)) := by
      show TellS _ _ _ _ _
      rw [HE.out, HSS.out, HSG.out]
      refine ⟨_, rfl, ?_⟩
      rw [HBL.out]; exact hFo
     have HKF := hide (hkk.trans hkR (fun i hi hl => by simp only [List.mem_singleton] at hi; have := HR.out; omega))
     clear hFo hkR hF hA hkk
     go_wp2_with (first
      | refine wpList_load_mid rfl 26 (.tmp 8) rfl Sb 0 rfl (sg.cells (.slice (some ⟨gB, 0, none⟩) k k)) _ hrg Tryz.underlying26 rfl hil ?_
      | refine wpList_store_rowTo rfl 26 (.tmp 6) (.tmp 67) rfl rfl R (sg.cells (.slice (some ⟨gB, 0, none⟩) k k)).toArray rfl rfl 26 zeroS hnr hia hzs hal ?_)
     exact ret_row_slot rfl rfl R 26 _ (0, 0) _ rfl (setRow_heap _ _ _ _ _ _ hnr) Tryz.underlying26 rfl hia ⟨HFIN.out, HKF.out⟩
theorem sign_ok (width : Int) (ao : Option Addr) (n cap : Nat) (size : Int) (xs : List UInt8) (w : World) (hn : xs.length = n) (hc : n <= cap) (hs : Sl w ao xs) (hmx : n <= 9223372036854775807) :
  Calls Tryz.prog 13 #[.int .i64 width, .slice ao n cap, .int .i64 size] w fun e w' => TellS w w' e (signE width n size) (signS width xs size) ∧ Kept [] w w' := by
 cases hg : (Dlt.isW width && Dlt.isZ size) with
 | false => exact sign_bad width ao n cap size xs w hn hg
 | true =>
  have h := hg
  rw [Bool.and_eq_true, isZ, Dlt.within_iff] at h
  obtain ⟨Z, rfl⟩ := Int.eq_ofNat_of_zero_le (show 0 <= size by omega)
  exact sign_in width ao n cap Z xs w hn hc hs hg hmx
end

end Go.Proofs.YtmklodligplbaabGreat
