import Derived.Test.YtmklodligplbaabGreatM18kk
import Derived.Deep.CutRange
import Derived.Deep.CutBlock
open Go.RowKit
set_option linter.unusedVariables false
set_option linter.unusedSimpArgs false
set_option maxRecDepth 100000
set_option maxHeartbeats 0
namespace Go.Proofs.YtmklodligplbaabGreat
open Dlt
def trows (T : List Tr) : List Value := T.flatMap Tr.cells
theorem trows_snoc (T : List Tr) (x : Tr) : trows (T ++ [x]) = trows T ++ x.cells := by simp [trows]
theorem trows_at : ∀ {T : List Tr} (i j : Nat) (x : Tr) (v : Value), T[i]? = some x -> x.cells[j]? = some v -> (trows T)[i * 3 + j]? = some v
 | [], i, j, x, v, h, _ => by simp at h
 | y :: T, 0, j, x, v, h, hv => by
  simp only [List.getElem?_cons_zero, Option.some.injEq] at h
  subst h
  rw [show trows (y :: T) = y.cells ++ trows T from by simp [trows], Nat.zero_mul, Nat.zero_add, List.getElem?_append_left (List.getElem?_eq_some_iff.1 hv).1]
  exact hv
 | y :: T, i + 1, j, x, v, h, hv => by
  rw [List.getElem?_cons_succ] at h
  have hl : y.cells.length = 3 := rfl
  rw [show trows (y :: T) = y.cells ++ trows T from by simp [trows], List.getElem?_append_right (by rw [hl]; omega), hl, show (i + 1) * 3 + j - 3 = i * 3 + j by omega]
  exact trows_at i j x v h hv
theorem trows_one (T : List Tr) : ∀ u ∈ trows T, u.oneCell' = true := fun u hu => by
 obtain ⟨x, _, hx⟩ := List.mem_flatMap.1 hu
 simp only [Tr.cells, stp3, List.mem_cons, List.not_mem_nil, or_false] at hx
 rcases hx with rfl | rfl | rfl <;> rfl
structure StIn (w0 w : World) (v : Value) (T : List Tr) : Prop where
 own : w.ownsRow w0.heap.size 39 3 v T.length (trows T)
 ok : ∀ x, x ∈ T -> x.Ok w0
theorem StIn.nil (w0 w : World) : StIn w0 w (.slice none 0 0) [] := ⟨World.ownsRow_nil _ _ _ _, by simp⟩
theorem StIn.kept {w0 w w' : World} {v : Value} {T : List Tr} (h : StIn w0 w v T) (hk : Kept [] w w') : StIn w0 w' v T := ⟨own_kept9 h.own hk (by simp), h.ok⟩
theorem StIn.shape {w0 w : World} {v : Value} {T : List Tr} (h : StIn w0 w v T) : ∃ lo lc, v = .slice lo T.length lc ∧ T.length <= lc := own_shape h.own
theorem StIn.add {w0 w : World} {v : Value} {T : List Tr} (h : StIn w0 w v T) (hT : T.length <= 1000000) (hb : w0.heap.size <= w.heap.size) (x : Tr) (hx : x.Ok w0) (N : Nat) (hN : w.heap[N]? = some (.cells x.cells.toArray 39 (0, 0))) :
  ∃ v' w', (Builtin.append_ #[32, 32] 32 #[v, .slice (some ⟨N, 0, none⟩) 1 1]).run Tryz.prog w = .ok v' w' ∧ StIn w0 w' v' (T ++ [x]) ∧ Kept v.ownBlock.toList w w' := by
 obtain ⟨i0, hi, hz0, hz1, hz2⟩ := info_parts Tryz.infoStp3
 obtain ⟨v', w', hrun, h1', h2, h3, h4⟩ := run_append_own_at (P := Tryz.prog) w w0.heap.size 32 32 39 i0 _ 3 40 Tryz.underlying32 hi hz0 hz1 hz2 rfl (by omega) v T.length (trows T) h.own ⟨N, 0, none⟩ 1 1 x.cells (by rfl)
  (fun j u hj => by rw [Addr.add_mid, cell_of_row _ _ _ _ _ _ hN, List.getElem?_toArray, Nat.zero_add]; exact hj) (fun u hu => trows_one [x] u (by simpa [trows] using hu)) (by unfold maxLen; omega) (by omega) hb
 have hk : Kept v.ownBlock.toList w w' := (Kept.refl _ w).grown h2 (fun k hk _ => by simp [hk])
 refine ⟨v', w', hrun, ⟨?_, fun y hy => ?_⟩, hk⟩
 ·rw [List.length_append, trows_snoc]
  exact h1'
 ·rw [List.mem_append, List.mem_singleton] at hy
  rcases hy with hy | rfl
  ·exact h.ok y hy
  ·exact hx
theorem StIn.put {w0 w W : World} {lo : Option Addr} {tn lc : Nat} {T : List Tr} (h : StIn w0 w (.slice lo tn lc) T) (hl : T.length = tn) (hT : tn <= 1000000) (h0 : Kept [] w0 w) (kz : Kept [] w W) (x : Tr) (hx : x.Ok w0) (N : Nat) (hN : W.heap[N]? = some (.cells x.cells.toArray 39 (0, 0))) :
  ∃ lo' lc' w', (Builtin.append_ #[32, 32] 32 #[.slice lo tn lc, .slice (some ⟨N, 0, none⟩) 1 1]).run Tryz.prog W = .ok (.slice lo' (tn + 1) lc') w' ∧ (T ++ [x]).length = tn + 1 ∧ StIn w0 w' (.slice lo' (tn + 1) lc') (T ++ [x]) ∧ Kept [] w0 w' := by
 obtain ⟨v', w', hrun, hA, hk⟩ := (h.kept kz).add (by omega) (Nat.le_trans h0.size kz.size) x hx N hN
 obtain ⟨lo', lc', rfl, _⟩ := hA.shape
 have hl2 : (T ++ [x]).length = tn + 1 := by rw [List.length_append, hl]; rfl
 rw [hl2] at hA hrun
 exact ⟨lo', lc', w', hrun, hl2, hA, (h0.tr kz).trans hk (fun g hg hlt => by have := (own_blk h.own (by simpa using hg)).1; omega)⟩
theorem StIn.trs {w0 w : World} {lo : Option Addr} {n lc : Nat} {T : List Tr} (h : StIn w0 w (.slice lo n lc) T) (h0 : Kept [] w0 w) : TrsAt w lo T := fun i x hx => by
 refine ⟨?_, (h.ok x (List.mem_of_getElem? hx)).kept h0⟩
 have hi : i < T.length := (List.getElem?_eq_some_iff.1 hx).1
 obtain ⟨g, cap, e, h3⟩ : ∃ g cap, Value.slice lo n lc = .slice (some ⟨g, 0, none⟩) n cap ∧ ∀ j u, (trows T)[j]? = some u -> w.cell? ⟨g, j, none⟩ = some u := by
  rcases h.own.2 with ⟨_, h0⟩ | ⟨g, cap, cur, hv, _, hg, _, _, _, ht⟩
  ·omega
  ·refine ⟨g, cap, by cases hv; rfl, fun j u hj => ?_⟩
   rw [cell_of_row _ _ _ _ _ _ hg]
   rw [<-ht, List.getElem?_take] at hj
   split at hj
   ·simpa using hj
   ·cases hj
 injection e with e _ _
 refine ⟨g, 0, e, fun j u hu => ?_⟩
 have := h3 (i * 3 + j) u (trows_at i j x u hx hu)
 rw [Nat.zero_add]
 exact this
theorem Tryz.builtLit (ao : Option Addr) (n cap : Nat) (W : World) : (Instr.build 39 #[(2, .slice ao n cap)]).run Tryz.prog W = .ok (.agg (stp3 ((0 : Nat) : Int) ((0 : Nat) : Int) (.slice ao n cap)).toArray) W := by kernel_rfl
theorem Tryz.builtCopy (f c : Int) (W : World) : (Instr.build 39 #[(0, .int .i64 f), (1, .int .i64 c)]).run Tryz.prog W = .ok (.agg (stp3 f c (.slice none 0 0)).toArray) W := by kernel_rfl
theorem Tryz.builtS1' (f c : Int) (so : Option Addr) (sn sc : Nat) (W : World) : (Instr.buildSlice 32 1 #[(0, .agg (stp3 f c (.slice so sn sc)).toArray)]).run Tryz.prog W = .ok (.slice (some ⟨W.heap.size, 0, none⟩) 1 1) (W.alloc (.cells (stp3 f c (.slice so sn sc)).toArray 39)) := by kernel_rfl
theorem fits18_yes (s : Sig) (ao : Option Addr) (n cap : Nat) (x : Int) (wo : Option Addr) (Z wc : Nat) (ws : List UInt8) (f : Nat) (w : World) (hI : SigIn w s ao n cap) (hW : InB8 w wo Z wc ws) (hZ : Z <= 140737488351232) (hn : n <= 1000000) (hf : f <= n) (hy : FitsAt s x (Sha.ident s.width ws) f) :
  Calls Tryz.prog 99 #[.agg (s.cells (.slice ao n cap)).toArray, .int .i64 x, .slice wo Z wc, .int .i64 f, .bool true] w fun e w' => e = .returned (.int .i64 f) ∧ Kept [] w w' := by
 refine (fits18_ok s ao n cap x wo Z wc ws f true w hI hW hZ hn hf).mono fun e w' h => ?_
 obtain ⟨r, rfl, hk, h⟩ := h
 rcases h with ⟨_, h⟩ | ⟨k, rfl, _, h2, _⟩
 ·exact absurd hy (h f (Nat.le_refl _) (fun _ => rfl))
 ·rw [h2 isb_yes]; exact ⟨rfl, hk⟩
theorem fits18_not (s : Sig) (ao : Option Addr) (n cap : Nat) (x : Int) (wo : Option Addr) (Z wc : Nat) (ws : List UInt8) (f : Nat) (w : World) (hI : SigIn w s ao n cap) (hW : InB8 w wo Z wc ws) (hZ : Z <= 140737488351232) (hn : n <= 1000000) (hf : f <= n) (hy : ¬ FitsAt s x (Sha.ident s.width ws) f) :
  Calls Tryz.prog 99 #[.agg (s.cells (.slice ao n cap)).toArray, .int .i64 x, .slice wo Z wc, .int .i64 f, .bool true] w fun e w' => e = .returned (.int .i64 (-1)) ∧ Kept [] w w' := by
 refine (fits18_ok s ao n cap x wo Z wc ws f true w hI hW hZ hn hf).mono fun e w' h => ?_
 obtain ⟨r, rfl, hk, h⟩ := h
 rcases h with ⟨h1, _⟩ | ⟨k, rfl, _, h2, h3, _⟩
 ·rw [h1]; exact ⟨rfl, hk⟩
 ·rw [h2 isb_yes] at h3; exact absurd h3 hy
theorem weak_of2 {s : Sig} {ws : List UInt8} {sm k : Nat} {wd : Int} (h : FitsAt s (sm : Nat) (Sha.ident s.width ws) k) (hs : Rol.sum ws = sm) (hw : s.width = wd) : s.blocks.getD k wk0 = weak wd ws := by
 rw [<-hw]
 exact Wk.ext' (by rw [h.2.1, <-hs]; rfl) h.2.2
theorem fits_of2 {s : Sig} {ws : List UInt8} {sm k : Nat} {wd : Int} (e : weak wd ws = s.blocks.getD k wk0) (hs : Rol.sum ws = sm) (hw : s.width = wd) (hk : k < s.blocks.length) : FitsAt s (sm : Nat) (Sha.ident s.width ws) k := by
 rw [hw]
 exact ⟨hk, by rw [<-e, <-hs]; rfl, by rw [<-e]; rfl⟩
def StepsR (R : List Stp) (w w' : World) (e : Ending) : Prop := ∃ (T : List Tr) (lo : Option Addr) (tn lc : Nat), e = .returned (.slice lo tn lc) ∧ T.length = tn ∧ tn <= 131073 ∧ TrsAt w' lo T ∧ T.map Tr.stp = R ∧ Kept [] w w'
theorem rsteps_ok (s : Sig) (ao : Option Addr) (n cap : Nat) (bo : Option Addr) (m bc : Nat) (ys : List UInt8) (w : World) (hI : SigIn w s ao n cap) (hB : InB8 w bo m bc ys) (Z : Nat) (hZ : s.size = (Z : Int)) (hZ1 : 1 <= Z) (hZ2 : Z <= 100000) (hm : m <= 131072) (hn : n <= 100000) :
  Calls Tryz.prog 61 #[.agg (s.cells (.slice ao n cap)).toArray, .slice bo m bc] w fun e w' => StepsR (makeV s ys) w w' e := by
 have hA := SigAt.new w s (.slice ao n cap)
 have hK := ka w (.cells (s.cells (.slice ao n cap)).toArray 26)
 obtain ⟨G, hG⟩ := nm (w.heap.size)
 rw [hG] at hA
 have HI := hide hI
 have HB := hide hB
 have HZ := hide hZ
 obtain ⟨wd, hwd⟩ := nm (s.width)
 have HWD := hide hwd
 obtain ⟨R, hR⟩ := nm (makeV s ys)
 have HR0 : Hid (Sto wd Z s.blocks ys R [] 0 0) := by
  have := Sto.start wd Z s.blocks ys
  rw [<-hR, <-hwd]
  rw [<-hwd] at this
  unfold makeV
  rw [hZ, Int.toNat_natCast]
  exact this
 rw [hR]
 clear hI hB hZ hwd hR
 go_enter Tryz.func61, Tryz.ntmps61
 go_upto_region 1 with (fail)
 try rw [hG]
 have HGW : Hid (w.heap.size <= G) := Nat.le_of_eq hG
 clear hG
 generalize w.alloc (.cells (s.cells (.slice ao n cap)).toArray 26) = w1 at hA hK ⊢
 have HA := hide hA
 have HK := hide hK
 clear hA hK
 have HIN : Hid (([] : List Tr).length = 0 ∧ StIn w1 w1 (.slice none 0 0) [] ∧ Sto wd Z s.blocks ys R (([] : List Tr).map Tr.stp) 0 0 ∧ Kept [] w1 w1) := ⟨rfl, StIn.nil _ _, HR0.out, Kept.refl _ _⟩
 go_wp2
 go_loopw [5, 6, 7] (fun x5 x6 x7 wr => ∃ (T : List Tr) (lo : Option Addr) (tn lc p q : Nat), tn <= p ∧ p <= q ∧ q <= m ∧ x5 = .slice lo tn lc ∧ x6 = .int .i64 p ∧ x7 = .int .i64 q ∧ Hid (T.length = tn ∧ StIn w1 wr (.slice lo tn lc) T ∧ Sto wd Z s.blocks ys R (T.map Tr.stp) p q ∧ Kept [] w1 wr)) (fun x5 x6 x7 wr => m - (intOf x7).toNat)
 case atStart => exact ⟨[], none, 0, 0, 0, 0, Nat.le_refl _, Nat.le_refl _, Nat.zero_le _, rfl, rfl, rfl, HIN⟩
 case round =>
  clear HIN HR0
  obtain ⟨T, lo, tn, lc, p, q, htn, hpq, hqm, rfl, rfl, rfl, HP⟩ := hrel
  have HAr := hide (HA.out.kept HP.out.2.2.2 (by simp))
  have c1 := HAr.out.cell (Sig.c1 _ _)
  rw [HZ.out] at c1
  have hwa : IntKind.i64.wrap ((q : Int) + (Z : Int)) = (q : Int) + (Z : Int) := wrap64 (by omega) (by omega)
  have HKr := hide (HK.out.tr HP.out.2.2.2)
  by_cases hlt : q + Z <= m
  ·have hle : (q : Int) + (Z : Int) <= (m : Int) := by omega
   obtain ⟨co, cc, hcut, hcin⟩ := cut_both (HB.out.kept HKr.out) q (q + Z) Z rfl hlt
   rw [show ((q + Z : Nat) : Int) = (q : Int) + (Z : Int) by omega] at hcut
   obtain ⟨ws, hws⟩ := nm ((ys.drop q).take Z)
   rw [hws] at hcin
   obtain ⟨sm, hsm⟩ : ∃ sm : Nat, Rol.sum ws = sm := ⟨_, rfl⟩
   have hsu := refsum_n co Z cc ws wr hcin.len (by omega) hcin.sl
   rw [hsm] at hsu
   have HFI : Hid (fitI wd Z s.blocks ys q = leastI s.blocks (sm : Nat) (Sha.ident s.width ws)) := by
    show _ = _
    unfold fitI wat
    rw [hws, hsm, HWD.out]
   have hmy := may18_ok s ao n cap (sm : Nat) wr (HI.out.kept HKr.out) (by omega)
   have HFT := hide (fun X (hX : Kept [] wr X) => fits18_ok s ao n cap (sm : Nat) co Z cc ws 0 false X (HI.out.kept (HKr.out.tr hX)) (hcin.kept hX) (by omega) (by omega) (Nat.zero_le _))
   have hr := HAr.out.range
   have hil := Tryz.infoSig s (.slice ao n cap)
   clear hcin hws hsm
   go_upto_region 8 with (go_at_call 42; refine hsu.mono ?_; rintro r w' ⟨rfl, hw⟩; obtain rfl := hw.symm; clear hsu)
   clear hcut hle
   go_upto_if 31 with (first
    | refine wpList_load_mid rfl 26 (.tmp 2) rfl G 0 rfl (s.cells (.slice ao n cap)) _ hr Tryz.underlying26 rfl hil ?_
    | (go_at_call 98; refine hmy.mono ?_; rintro r wa ⟨t, rfl, hno, hka⟩; have HMY := hide (ai hno hka); clear hmy hno hka))
   clear hr c1
   cases t with
   | false =>
    have hfn : fitI wd Z s.blocks ys q = none := by
     rw [HFI.out]
     exact fits_no (fun j hj hh => HMY.out.1 rfl j hj hh.1)
    have HKA := hide HMY.out.2
    clear HMY HFI HFT HAr
    have HPF : Hid (T.length = tn ∧ StIn w1 wa (.slice lo tn lc) T ∧ Sto wd Z s.blocks ys R (T.map Tr.stp) p (q + 1) ∧ Kept [] w1 wa) := ⟨HP.out.1, HP.out.2.1.kept HKA.out, HP.out.2.2.1.skip (by omega) (by rw [HB.out.len]; exact hlt) hfn, HP.out.2.2.2.tr HKA.out⟩
    clear HP HKr
    go_wp2
    go_roundw
    case rel => exact ⟨T, lo, tn, lc, p, q + 1, htn, by omega, by omega, rfl, rfl, by go_num, HPF⟩
    case measure => simp [intOf]; omega
   | true =>
    have hr := (HAr.out.kept HMY.out.2 (by simp)).range
    have hft := HFT.out wa HMY.out.2
    clear HFT
    go_upto_region 10 with (first
     | refine wpList_load_mid rfl 26 (.tmp 2) rfl G 0 rfl (s.cells (.slice ao n cap)) _ hr Tryz.underlying26 rfl hil ?_
     | (go_at_call 99; refine hft.mono ?_; rintro r wb ⟨rv, rfl, hkb, hor⟩; have HKB := hide (HMY.out.2.tr hkb); clear hft hkb))
    clear hr HMY
    rcases hor with ⟨rfl, hno⟩ | ⟨i, rfl, _, _, hyes, hmin⟩
    ·have hfn : fitI wd Z s.blocks ys q = none := by
      rw [HFI.out]
      exact fits_no (fun j hj hh => hno j (Nat.zero_le _) (fun h => absurd h isb_no) ⟨hj, hh⟩)
     clear hno HFI HAr
     have HPF : Hid (T.length = tn ∧ StIn w1 wb (.slice lo tn lc) T ∧ Sto wd Z s.blocks ys R (T.map Tr.stp) p (q + 1) ∧ Kept [] w1 wb) := ⟨HP.out.1, HP.out.2.1.kept HKB.out, HP.out.2.2.1.skip (by omega) (by rw [HB.out.len]; exact hlt) hfn, HP.out.2.2.2.tr HKB.out⟩
     clear HP HKr
     go_wp2
     go_roundw
     case rel => exact ⟨T, lo, tn, lc, p, q + 1, htn, by omega, by omega, rfl, rfl, by go_num, HPF⟩
     case measure => simp [intOf]; omega
    ·have hfs : fitI wd Z s.blocks ys q = some i := by
      rw [HFI.out]
      exact fits_least hyes.1 hyes.2.1 hyes.2.2 (fun j hj hh => hmin j (Nat.zero_le _) hj ⟨Nat.lt_trans hj hyes.1, hh⟩)
     clear hyes hmin HFI
     obtain ⟨hi, hc1, hc2, hSto⟩ := HP.out.2.2.1.hit (by omega) (by rw [HB.out.len]; exact hlt) hfs
     have HC1 : Hid (cntW wd Z (s.blocks.drop i) (ys.drop q) = 1 + cntW wd Z (s.blocks.drop (i + 1)) (ys.drop (q + Z))) := by
      have hfi := hfs
      unfold fitI at hfi
      obtain ⟨_, g2, g3⟩ := leastI_some hfi
      have := cnt_next (wd := wd) (Z := Z) (L := s.blocks) (ys := ys) (i := i) (n := 0) (q := q) hi (by rw [HB.out.len]; exact hlt) (Wk.ext' (by rw [Nat.add_zero, g2]; rfl) (by rw [Nat.add_zero, g3]; rfl))
      show _ = _
      rw [Nat.add_zero, Nat.zero_add] at this
      omega
     obtain ⟨cnt, hcn⟩ := nm (cntW wd Z (s.blocks.drop i) (ys.drop q))
     rw [hcn] at hc1 hc2 hSto
     have HCN := hide hcn
     have HST := hide hSto
     rw [HB.out.len] at hc2
     have hin : i < n := by rw [<-HI.out.len]; exact hi
     have HWB : Hid (StIn w1 wb (.slice lo tn lc) T ∧ Kept [] w1 wb ∧ Kept [] w wb) := ⟨HP.out.2.1.kept HKB.out, HP.out.2.2.2.tr HKB.out, HKr.out.tr HKB.out⟩
     have HTL := hide HP.out.1
     clear hcn hSto hfs HP HKr HKB
     have hi0 : ¬ ((i : Int) < 0) := by omega
     go_upto_if 42 with (fail)
     clear hi0
     go_cut [5] from 38 to 50 (fun x5 wx => ∃ (T2 : List Tr) (lo2 : Option Addr) (tn2 lc2 : Nat), tn2 <= q ∧ x5 = .slice lo2 tn2 lc2 ∧ Hid (T2.length = tn2 ∧ StIn w1 wx (.slice lo2 tn2 lc2) T2 ∧ T2.map Tr.stp = accP (T.map Tr.stp) ys p q ∧ Kept [] w1 wx ∧ Kept [] w wx))
     case first =>
      by_cases hpq2 : p < q
      ·obtain ⟨lo3, lc3, hlcut, hlin⟩ := cut_both (HB.out.kept HK.out) p q (q - p) (by omega) hqm
       obtain ⟨ln, hln⟩ := nm (q - p)
       rw [hln] at hlcut hlin
       have hok : (⟨0, 0, lo3, ln, lc3, (ys.drop p).take ln⟩ : Tr).Ok w1 := ⟨hlin, by show (0 : Nat) <= _; omega, by show (0 : Nat) <= _; omega, by show ln <= _; omega⟩
       have hb0 := Tryz.builtLit lo3 ln lc3
       have hb1 := Tryz.builtS1' ((0 : Nat) : Int) ((0 : Nat) : Int) lo3 ln lc3 wb
       have kz := ka wb (.cells (stp3 ((0 : Nat) : Int) ((0 : Nat) : Int) (.slice lo3 ln lc3)).toArray 39)
       obtain ⟨lo4, lc4, w4, hrun, hl4, hA4, hk4⟩ := HWB.out.1.put HTL.out (by omega) HWB.out.2.1 kz _ hok wb.heap.size (heap_new wb _)
       have HPF : Hid ((T ++ [(⟨0, 0, lo3, ln, lc3, (ys.drop p).take ln⟩ : Tr)]).length = tn + 1 ∧ StIn w1 w4 (.slice lo4 (tn + 1) lc4) (T ++ [(⟨0, 0, lo3, ln, lc3, (ys.drop p).take ln⟩ : Tr)]) ∧ (T ++ [(⟨0, 0, lo3, ln, lc3, (ys.drop p).take ln⟩ : Tr)]).map Tr.stp = accP (T.map Tr.stp) ys p q ∧ Kept [] w1 w4 ∧ Kept [] w w4) := by
        refine ⟨hl4, hA4, ?_, hk4, HK.out.tr hk4⟩
        unfold accP
        rw [if_pos hpq2, List.map_append, hln]
        rfl
       clear hlin hok hA4 hk4 kz hl4 HWB
       have hpq3 : (p : Int) < (q : Int) := by omega
       go_wp2_with (first
        | (refine wpList_buildRun8 rfl 39 #[(2, .tmp 47)] rfl #[(2, .slice lo3 ln lc3)] (by simp [Act.eval, Act.put]) _ (hb0 _) ?_; try simp only [z4, z5, z6, z7, z8])
        | (refine wpList_buildOne rfl 32 (.tmp 48) rfl (.agg (stp3 ((0 : Nat) : Int) ((0 : Nat) : Int) (.slice lo3 ln lc3)).toArray) rfl hb1 ?_; try simp only [z4, z5, z6, z7, z8])
        | (refine wpList_app_run rfl (.tmp 43) (.tmp 49) 32 32 rfl (.slice lo tn lc) (.slice (some ⟨wb.heap.size, 0, none⟩) 1 1) rfl rfl (.slice lo4 (tn + 1) lc4) w4 hrun ?_; try simp only [z4, z5, z6, z7, z8]))
       go_meet
       case rel => exact ⟨_, lo4, tn + 1, lc4, by omega, rfl, HPF⟩
      ·have HPF : Hid (T.length = tn ∧ StIn w1 wb (.slice lo tn lc) T ∧ T.map Tr.stp = accP (T.map Tr.stp) ys p q ∧ Kept [] w1 wb ∧ Kept [] w wb) := ⟨HTL.out, HWB.out.1, by unfold accP; rw [if_neg hpq2], HWB.out.2.1, HWB.out.2.2⟩
       clear HWB
       have hpq3 : ¬ (p : Int) < (q : Int) := by omega
       go_wp2
       go_meet
       case rel => exact ⟨T, lo, tn, lc, by omega, rfl, HPF⟩
     case rest =>
      obtain ⟨T2, lo2, tn2, lc2, htn2, rfl, HC⟩ := hcut
      have HAc := hide (HA.out.kept HC.out.2.2.2.1 (by simp))
      have HKc := hide HC.out.2.2.2.2
      have c1 := HAc.out.cell (Sig.c1 _ _)
      rw [HZ.out] at c1
      clear HWB HAr
      go_upto_block 2 with (fail)
      obtain ⟨Q, hQ⟩ := nm (q + cnt * Z)
      have HQ := hide hQ
      clear hQ
      go_cut [7, 11] from 12 to 92 (fun x7 x11 wx => x7 = .int .i64 (Q : Nat) ∧ x11 = .int .i64 (cnt : Nat) ∧ Hid (Kept [] wc wx))
      case first =>
       have HIN : Hid (i + 1 <= n ∧ q + Z = q + 1 * Z ∧ cnt = 1 + cntW wd Z (s.blocks.drop (i + 1)) (ys.drop (q + Z)) ∧ Kept [] wc wc) := ⟨by rw [<-HI.out.len]; exact hi, by omega, by rw [<-HCN.out]; exact HC1.out, Kept.refl _ _⟩
       go_wp2
       go_loopw [7, 11] (fun x7 x11 wr => ∃ (k qq : Nat), 1 <= k ∧ k <= n ∧ qq <= m ∧ x7 = .int .i64 (qq : Nat) ∧ x11 = .int .i64 (k : Nat) ∧ Hid (i + k <= n ∧ qq = q + k * Z ∧ cnt = k + cntW wd Z (s.blocks.drop (i + k)) (ys.drop qq) ∧ Kept [] wc wr)) (fun x7 x11 wr => n - (intOf x11).toNat)
       case atStart => exact ⟨1, q + Z, Nat.le_refl _, by have := HIN.out.1; omega, by omega, by go_num, rfl, HIN⟩
       case round =>
        clear HIN
        obtain ⟨k, qq, hk1, hkn, hqm, rfl, rfl, HR⟩ := hrel
        have HAi := hide (HAc.out.kept HR.out.2.2.2 (by simp))
        have c1 := HAi.out.cell (Sig.c1 _ _)
        rw [HZ.out] at c1
        have cv := HAi.out.cell (Sig.cv _ _)
        have hwi : IntKind.i64.wrap ((i : Int) + (k : Int)) = (i : Int) + (k : Int) := wrap64 (by omega) (by omega)
        have hwq : IntKind.i64.wrap ((qq : Int) + (Z : Int)) = (qq : Int) + (Z : Int) := wrap64 (by omega) (by omega)
        have hqy : qq <= ys.length := by rw [HB.out.len]; exact hqm
        have HKi := hide (HKc.out.tr HR.out.2.2.2)
        by_cases hik : i + k < n
        ·have hik1 : (i : Int) + (k : Int) < (n : Int) := by omega
         by_cases hqz : qq + Z <= m
         ·have hqz1 : (qq : Int) + (Z : Int) <= (m : Int) := by omega
          obtain ⟨co, cc, hcut, hcin⟩ := cut_both (HB.out.kept HKi.out) qq (qq + Z) Z rfl hqz
          rw [show ((qq + Z : Nat) : Int) = (qq : Int) + (Z : Int) by omega] at hcut
          obtain ⟨ws, hws⟩ := nm ((ys.drop qq).take Z)
          rw [hws] at hcin
          obtain ⟨sm, hsm⟩ : ∃ sm : Nat, Rol.sum ws = sm := ⟨_, rfl⟩
          have HSU := hide (fun X (hX : Kept [] wr X) => (refsum_n co Z cc ws X (hcin.kept hX).len (by omega) (hcin.kept hX).sl).mono (fun e w' (hh : e = .returned (.int .i64 (Rol.sum ws : Nat)) ∧ w' = X) => (show e = .returned (.int .i64 (sm : Nat)) ∧ Kept [] X w' from ⟨by rw [hh.1, hsm], by rw [hh.2]; exact Kept.refl _ _⟩)))
          by_cases hft : FitsAt s (sm : Nat) (Sha.ident s.width ws) (i + k)
          ·have HFT := hide (fun X (hX : Kept [] wr X) => fits18_yes s ao n cap (sm : Nat) co Z cc ws (i + k) X (HI.out.kept (HKi.out.tr hX)) (hcin.kept hX) (by omega) (by omega) (by omega) hft)
           have HPF : Hid (i + (k + 1) <= n ∧ qq + Z = q + (k + 1) * Z ∧ cnt = (k + 1) + cntW wd Z (s.blocks.drop (i + (k + 1))) (ys.drop (qq + Z))) := by
            refine ⟨by omega, by rw [Nat.add_mul, Nat.one_mul, <-Nat.add_assoc, <-HR.out.2.1], ?_⟩
            have h1 := cnt_next (wd := wd) (Z := Z) (L := s.blocks) (ys := ys) (i := i) (n := k) (q := qq) (by rw [HI.out.len]; exact hik) (by rw [HB.out.len]; exact hqz) (by rw [hws]; exact (weak_of2 hft hsm HWD.out).symm)
            have h2 := HR.out.2.2.1
            omega
           have hlt0 : ¬ ((i : Int) + (k : Int) < 0) := by omega
           clear hft hcin hsm hws
           go_upto_region 18 with (fail)
           skip
           refine th wr fun h0 => ?_
           generalize World.drew wr = v0 at h0  ⊢
           refine t4 0 (.agg (s.cells (.slice ao n cap)).toArray) rfl (yieldsIf_load_mid (by rfl) _ _ rfl G 0 rfl (s.cells (.slice ao n cap)) _ (fun W h => (HAi.out.kept h (by simp)).range) Tryz.underlying26 rfl (Tryz.infoSig _ _)) h0 ?_
           simp only [zz]
           refine t1 1 (.slice co Z cc) h0 ?_
           simp only [zz]
           refine t1 3 (.slice co Z cc) h0 ?_
           simp only [zz]
           refine t1 4 (.int .i64 (i : Nat)) h0 ?_
           simp only [zz]
           refine t1 5 (.int .i64 (k : Nat)) h0 ?_
           simp only [zz]
           refine t2 6 (.int .i64 ((i + k : Nat) : Int)) rfl h0 ?_ (fun w hSw => by have c0 := hwi; go_simp)
           simp only [zz]
           refine rd 2 fun K hK => ?_
           go_simp
           refine (HSU.out v0 h0).mono ?_
           rintro e v1 ⟨rfl, hk2⟩
           refine hK.out _ _ (h0.tr hk2) (fun h1 => ?_)
           clear hK K
           try simp only [zz]
           clear hk2 h0
           refine rd 7 fun K hK => ?_
           go_simp
           refine (HFT.out v1 h1).mono ?_
           rintro e v2 ⟨rfl, hk7⟩
           refine hK.out _ _ (h1.tr hk7) (fun h2 => ?_)
           clear hK K
           try simp only [zz]
           clear hk7 h1
           refine t1 8 (.bool false) h2 ?_
           simp only [zz]
           refine qd ?_
           have HPG : Hid (i + (k + 1) <= n ∧ qq + Z = q + (k + 1) * Z ∧ cnt = (k + 1) + cntW wd Z (s.blocks.drop (i + (k + 1))) (ys.drop (qq + Z)) ∧ Kept [] wc v2) := ⟨HPF.out.1, HPF.out.2.1, HPF.out.2.2, HR.out.2.2.2.tr h2⟩
           have c1 := (HAi.out.kept h2 (by simp)).cell (Sig.c1 _ _)
           rw [HZ.out] at c1
           clear HPF HR HSU HFT h2 HAi hcut HKi cv
           go_wp2
           go_roundw
           case rel => exact ⟨k + 1, qq + Z, by omega, by have := HPG.out.1; omega, by omega, by go_num, by go_num, HPG⟩
           case measure => simp [intOf]; omega
          ·have HFT := hide (fun X (hX : Kept [] wr X) => fits18_not s ao n cap (sm : Nat) co Z cc ws (i + k) X (HI.out.kept (HKi.out.tr hX)) (hcin.kept hX) (by omega) (by omega) (by omega) hft)
           have HEND : Hid (cnt = k ∧ Q = qq) := by
            have h1 := cnt_stop (wd := wd) (Z := Z) (L := s.blocks) (ys := ys) (i := i) (n := k) (q := qq) (.inr (.inr (by rw [hws]; exact fun e => hft (fits_of2 e hsm HWD.out (by rw [HI.out.len]; exact hik))))) hqy
            have h2 := HR.out.2.2.1
            rw [h1] at h2
            exact ⟨h2, by rw [<-HQ.out, HR.out.2.1]; have : cnt = k := h2; rw [this]⟩
           clear hft hcin hsm hws
           go_upto_region 18 with (fail)
           skip
           refine th wr fun h0 => ?_
           generalize World.drew wr = v0 at h0  ⊢
           refine t4 0 (.agg (s.cells (.slice ao n cap)).toArray) rfl (yieldsIf_load_mid (by rfl) _ _ rfl G 0 rfl (s.cells (.slice ao n cap)) _ (fun W h => (HAi.out.kept h (by simp)).range) Tryz.underlying26 rfl (Tryz.infoSig _ _)) h0 ?_
           simp only [zz]
           refine t1 1 (.slice co Z cc) h0 ?_
           simp only [zz]
           refine t1 3 (.slice co Z cc) h0 ?_
           simp only [zz]
           refine t1 4 (.int .i64 (i : Nat)) h0 ?_
           simp only [zz]
           refine t1 5 (.int .i64 (k : Nat)) h0 ?_
           simp only [zz]
           refine t2 6 (.int .i64 ((i + k : Nat) : Int)) rfl h0 ?_ (fun w hSw => by have c0 := hwi; go_simp)
           simp only [zz]
           refine rd 2 fun K hK => ?_
           go_simp
           refine (HSU.out v0 h0).mono ?_
           rintro e v1 ⟨rfl, hk2⟩
           refine hK.out _ _ (h0.tr hk2) (fun h1 => ?_)
           clear hK K
           try simp only [zz]
           clear hk2 h0
           refine rd 7 fun K hK => ?_
           go_simp
           refine (HFT.out v1 h1).mono ?_
           rintro e v2 ⟨rfl, hk7⟩
           refine hK.out _ _ (h1.tr hk7) (fun h2 => ?_)
           clear hK K
           try simp only [zz]
           clear hk7 h1
           refine t1 8 (.bool true) h2 ?_
           simp only [zz]
           refine qd ?_
           have HPG : Hid (Kept [] wc v2) := HR.out.2.2.2.tr h2
           clear HR HSU HFT h2 HAi hcut HKi cv c1
           obtain ⟨rfl, rfl⟩ := HEND.out
           go_wp2
           go_meet
           case rel => exact ⟨rfl, rfl, HPG⟩
         ·have hqz1 : ¬ (qq : Int) + (Z : Int) <= (m : Int) := by omega
          have HEND : Hid (cnt = k ∧ Q = qq) := by
           have h1 := cnt_stop (wd := wd) (Z := Z) (L := s.blocks) (ys := ys) (i := i) (n := k) (q := qq) (.inr (.inl (by rw [HB.out.len]; omega))) hqy
           have h2 := HR.out.2.2.1
           rw [h1] at h2
           exact ⟨h2, by rw [<-HQ.out, HR.out.2.1]; have : cnt = k := h2; rw [this]⟩
          have HPG := hide HR.out.2.2.2
          clear HR HAi HKi
          obtain ⟨rfl, rfl⟩ := HEND.out
          go_wp2
          go_meet
          case rel => exact ⟨rfl, rfl, HPG⟩
        ·have hik1 : ¬ (i : Int) + (k : Int) < (n : Int) := by omega
         have hqz : True := trivial
         have HEND : Hid (cnt = k ∧ Q = qq) := by
          have h1 := cnt_stop (wd := wd) (Z := Z) (L := s.blocks) (ys := ys) (i := i) (n := k) (q := qq) (.inl (by rw [HI.out.len]; omega)) hqy
          have h2 := HR.out.2.2.1
          rw [h1] at h2
          exact ⟨h2, by rw [<-HQ.out, HR.out.2.1]; have : cnt = k := h2; rw [this]⟩
         have HPG := hide HR.out.2.2.2
         clear HR HAi HKi
         obtain ⟨rfl, rfl⟩ := HEND.out
         go_wp2
         go_meet
         case rel => exact ⟨rfl, rfl, HPG⟩
      case rest =>
       obtain ⟨rfl, rfl, HX⟩ := hcut
       have hb0 := Tryz.builtCopy ((i : Nat) : Int) ((cnt : Nat) : Int)
       have hb1 := Tryz.builtS1' ((i : Nat) : Int) ((cnt : Nat) : Int) none 0 0 wc
       have kz := ka wc (.cells (stp3 ((i : Nat) : Int) ((cnt : Nat) : Int) (.slice none 0 0)).toArray 39)
       have hok : (⟨i, cnt, none, 0, 0, []⟩ : Tr).Ok w1 := ⟨inB8_nil w1, by show i <= _; omega, by show cnt <= _; have := Nat.le_mul_of_pos_right cnt hZ1; omega, by show (0 : Nat) <= _; omega⟩
       obtain ⟨lo4, lc4, w4, hrun, hl4, hA4, hk4⟩ := (HC.out.2.1.kept HX.out).put HC.out.1 (by omega) (HC.out.2.2.2.1.tr HX.out) kz _ hok wc.heap.size (heap_new wc _)
       have hQm : Q <= m := by rw [<-HQ.out]; exact hc2
       have hQq : q + 1 <= Q := by
        have : 1 * 1 <= cnt * Z := Nat.mul_le_mul hc1 hZ1
        have := HQ.out
        omega
       have hQt : tn2 + 1 <= Q := by
        have := HQ.out
        have : 1 * 1 <= cnt * Z := Nat.mul_le_mul hc1 hZ1
        omega
       have HPF : Hid ((T2 ++ [(⟨i, cnt, none, 0, 0, []⟩ : Tr)]).length = tn2 + 1 ∧ StIn w1 w4 (.slice lo4 (tn2 + 1) lc4) (T2 ++ [(⟨i, cnt, none, 0, 0, []⟩ : Tr)]) ∧ Sto wd Z s.blocks ys R ((T2 ++ [(⟨i, cnt, none, 0, 0, []⟩ : Tr)]).map Tr.stp) Q Q ∧ Kept [] w1 w4) := by
        refine ⟨hl4, hA4, ?_, hk4⟩
        rw [List.map_append, HC.out.2.2.1, <-HQ.out]
        have e : ([(⟨i, cnt, none, 0, 0, []⟩ : Tr)]).map Tr.stp = [.copy i cnt] := by
         simp only [List.map_cons, List.map_nil, Tr.stp]
         rw [if_pos (show 0 < cnt from hc1)]
        rw [e]
        exact HST.out
       clear hok hA4 hk4 kz hl4 HC HX
       go_wp2_with (first
        | (refine wpList_buildRun8 rfl 39 #[(0, .tmp 94), (1, .tmp 95)] rfl #[(0, .int .i64 (i : Nat)), (1, .int .i64 (cnt : Nat))] (by simp [Act.eval, Act.put]) _ (hb0 _) ?_; try simp only [z4, z5, z6, z7, z8])
        | (refine wpList_buildOne rfl 32 (.tmp 96) rfl (.agg (stp3 ((i : Nat) : Int) ((cnt : Nat) : Int) (.slice none 0 0)).toArray) rfl hb1 ?_; try simp only [z4, z5, z6, z7, z8])
        | (refine wpList_app_run rfl (.tmp 93) (.tmp 97) 32 32 rfl (.slice lo2 tn2 lc2) (.slice (some ⟨wc.heap.size, 0, none⟩) 1 1) rfl rfl (.slice lo4 (tn2 + 1) lc4) w4 hrun ?_; try simp only [z4, z5, z6, z7, z8]))
       go_roundw
       case rel => exact ⟨_, lo4, tn2 + 1, lc4, Q, Q, hQt, Nat.le_refl _, hQm, rfl, rfl, rfl, HPF⟩
       case measure => simp [intOf]; omega
  ·have hle : ¬ (q : Int) + (Z : Int) <= (m : Int) := by omega
   have hdn := HP.out.2.2.1.done (by omega) (by rw [HB.out.len]; omega)
   rw [HB.out.len] at hdn
   by_cases hpm : p < m
   ·obtain ⟨lo3, hlcut, hlin0⟩ := cut_from8 bo m bc p (by omega) HB.out.le
    have hlin := hlin0 w1 ys HB.out.len (HB.out.sl.kept HK.out (by simp))
    obtain ⟨ln, hln⟩ := nm (m - p)
    obtain ⟨lc3, hlc3⟩ := nm (bc - p)
    rw [hln, hlc3] at hlcut
    have hne : ys.drop p ≠ [] := fun e => by have := congrArg List.length e; rw [List.length_drop, HB.out.len] at this; simp at this; omega
    have hble := HB.out.le
    have hok : (⟨0, 0, lo3, ln, lc3, ys.drop p⟩ : Tr).Ok w1 := ⟨⟨by rw [List.length_drop, HB.out.len]; exact hln, by show ln <= lc3; omega, by show ln <= _; omega, hlin, fun e => by obtain ⟨_, _, e2, _⟩ := hlin.open hne; rw [show lo3 = none from e] at e2; cases e2⟩, by show (0 : Nat) <= _; omega, by show (0 : Nat) <= _; omega, by show ln <= _; omega⟩
    have hb0 := Tryz.builtLit lo3 ln lc3
    have hb1 := Tryz.builtS1' ((0 : Nat) : Int) ((0 : Nat) : Int) lo3 ln lc3 wr
    have kz := ka wr (.cells (stp3 ((0 : Nat) : Int) ((0 : Nat) : Int) (.slice lo3 ln lc3)).toArray 39)
    obtain ⟨lo4, lc4, w4, hrun, hl4, hA4, hk4⟩ := HP.out.2.1.put HP.out.1 (by omega) HP.out.2.2.2 kz _ hok wr.heap.size (heap_new wr _)
    have HPF : Hid (TrsAt w4 lo4 (T ++ [(⟨0, 0, lo3, ln, lc3, ys.drop p⟩ : Tr)]) ∧ (T ++ [(⟨0, 0, lo3, ln, lc3, ys.drop p⟩ : Tr)]).length = tn + 1 ∧ (T ++ [(⟨0, 0, lo3, ln, lc3, ys.drop p⟩ : Tr)]).map Tr.stp = R ∧ Kept [] w w4) := by
     refine ⟨hA4.trs hk4, hl4, ?_, HK.out.tr hk4⟩
     rw [<-hdn, List.map_append]
     unfold accP
     rw [if_pos hpm, List.take_of_length_le (by rw [List.length_drop, HB.out.len]; exact Nat.le_refl _)]
     rfl
    clear hlin0 hlin hok hA4 hk4 kz hl4 HP hdn HAr HKr hne hble
    have hpm3 : (p : Int) < (m : Int) := by omega
    go_wp2_with (first
     | (refine wpList_buildRun8 rfl 39 #[(2, .tmp 107)] rfl #[(2, .slice lo3 ln lc3)] (by simp [Act.eval, Act.put]) _ (hb0 _) ?_; try simp only [z4, z5, z6, z7, z8])
     | (refine wpList_buildOne rfl 32 (.tmp 108) rfl (.agg (stp3 ((0 : Nat) : Int) ((0 : Nat) : Int) (.slice lo3 ln lc3)).toArray) rfl hb1 ?_; try simp only [z4, z5, z6, z7, z8])
     | (refine wpList_app_run rfl (.tmp 104) (.tmp 109) 32 32 rfl (.slice lo tn lc) (.slice (some ⟨wr.heap.size, 0, none⟩) 1 1) rfl rfl (.slice lo4 (tn + 1) lc4) w4 hrun ?_; try simp only [z4, z5, z6, z7, z8]))
    go_ret
    exact ⟨_, lo4, tn + 1, lc4, rfl, HPF.out.2.1, by omega, HPF.out.1, HPF.out.2.2.1, HPF.out.2.2.2⟩
   ·have HPF : Hid (TrsAt wr lo T ∧ T.length = tn ∧ T.map Tr.stp = R ∧ Kept [] w wr) := ⟨HP.out.2.1.trs HP.out.2.2.2, HP.out.1, by rw [<-hdn]; unfold accP; rw [if_neg hpm], HKr.out⟩
    clear HP hdn HAr HKr
    have hpm3 : ¬ (p : Int) < (m : Int) := by omega
    go_wp2
    go_ret
    exact ⟨T, lo, tn, lc, rfl, HPF.out.2.1, by omega, HPF.out.1, HPF.out.2.2.1, HPF.out.2.2.2⟩
end Go.Proofs.YtmklodligplbaabGreat
