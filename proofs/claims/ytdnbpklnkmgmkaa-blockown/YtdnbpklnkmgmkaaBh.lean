/-
  Contracts: freightlaw11.num, known. (Written by tools/bh.py.)
-/
import Derived.Test.YtdnbpklnkmgmkaaBf
import Derived.Test.YtdnbpklnkmgmkaaBg
import Derived.Lib.SlBytesConst
import Derived.Laws.BytesString
import Derived.Deep.MidRow
namespace Go.Proofs.Ytdnbpklnkmgmkaa
open Go.RowKit
set_option linter.unusedVariables false
set_option linter.unusedSimpArgs false

set_option maxHeartbeats 400000 in
theorem num_any (a : Int) (w : World) :
    Calls Try.prog 13 #[.int .i64 a] w fun e w' => e = .returned (.int .i64 a) ∧ w' = w := by
  go_enter Try.func13, Try.ntmps13
  go_wp2
  go_ret
  exact ⟨rfl, rfl⟩

def row34 : List UInt8 := [48, 49, 50, 51, 52, 53, 54, 55, 56, 57, 97, 98, 99, 100, 101, 102, 120, 120, 120, 120, 120, 120, 120, 120, 120, 120, 120, 120, 120, 120, 120, 120, 121, 122]
def out22 : List UInt8 := [48, 49, 50, 51, 52, 53, 54, 55, 56, 57, 97, 98, 99, 100, 101, 102, 2, 120, 0, 12, 121, 122]
def four4 : List UInt8 := [2, 120, 0, 12]
def xs16 : List UInt8 := [120, 120, 120, 120, 120, 120, 120, 120, 120, 120, 120, 120, 120, 120, 120, 120]
def bl3 : List Bk := [⟨0, 16, 16, 1757737011⟩, ⟨16, 4, 16, 3625542228⟩, ⟨20, 2, 2, 267667554⟩]
theorem pack34 : Blk.pack row34 16 = (out22, bl3, 0) := by decide +kernel
theorem opn4 : Blk.opn four4 ⟨16, 4, 16, 3625542228⟩ = (xs16, 0) := by
  have h := Blk.opn_pc xs16 (by decide) (by decide) 16
  have e1 : Blk.sh xs16 = four4 := by decide +kernel
  have e2 : Pure.sum four4 = 3625542228 := by decide +kernel
  rw [e1, e2] at h
  exact h
theorem valid34 : Blk.valid bl3 34 16 = true := by
  have h := Blk.valid_blks row34 16 (by omega) (by omega) (by decide)
  have e : Blk.blks row34 16 (Blk.cnt row34.length 16) = bl3 := by decide +kernel
  rw [e] at h
  exact h
theorem valid35 : Blk.valid bl3 35 16 = false := by
  refine Blk.valid_no (fun h => ?_)
  have h1 := (h.2 2 (by decide)).1
  revert h1
  decide
theorem new_sl3 (W : World) (xs : List UInt8) (fr : Nat × Nat) : Sl (W.alloc (.cells (bys xs).toArray 5 fr)) (some ⟨W.heap.size, 0, none⟩) xs := by
  refine Sl.of fun i hi => ?_
  rw [Nat.zero_add]
  unfold World.cell?
  rw [heap_alloc_new]
  simpa using bys_at hi
theorem OwnB.at0 {w : World} {base : Nat} {bo : Option Addr} {n bc : Nat} {xs : List UInt8} (h : OwnB w base (.slice bo n bc) xs) (hne : xs ≠ []) : ∃ g, bo = some ⟨g, 0, none⟩ ∧ Sl w (some ⟨g, 0, none⟩) xs ∧ n ≤ bc ∧ base ≤ g ∧ bc ≤ 9223372036854775807 := by
  obtain ⟨ao, cap, e, h1, h2, h3, h4, h5⟩ := h.shape
  cases e
  cases bo with
  | none => exact absurd (h5 rfl).1 hne
  | some a =>
    obtain ⟨g, rfl, hb, _⟩ := h3 a rfl
    exact ⟨g, rfl, h2, h1, hb, h4⟩
theorem OwnK.at0 {w : World} {base : Nat} {bo : Option Addr} {n bc : Nat} {L : List Bk} (h : OwnK w base (.slice bo n bc) L) (hne : L ≠ []) : ∃ g, bo = some ⟨g, 0, none⟩ ∧ Blks w (some ⟨g, 0, none⟩) L ∧ n ≤ bc ∧ base ≤ g ∧ bc ≤ 9223372036854775807 := by
  obtain ⟨ao, cap, e, h1, h2, h3, h4, h5⟩ := h.shape
  cases e
  cases bo with
  | none => exact absurd (h5 rfl).1 hne
  | some a =>
    obtain ⟨g, rfl, hb, _⟩ := h3 a rfl
    exact ⟨g, rfl, h2, h1, hb, h4⟩
theorem Try.cutMid (W : World) (g L cap l h : Nat) (h1 : l ≤ h) (h2 : h ≤ cap) (h3 : l < cap) :
    (Instr.slice 23 (.slice (some ⟨g, 0, none⟩) L cap) (some (.int .i64 l)) (some (.int .i64 h)) none).run Try.prog W = .ok (.slice (some ⟨g, l, none⟩) (h - l) (cap - l)) W := by
  have hz : (sizeOf (Try.prog.elem 23)).run Try.prog W = .ok 1 W := by kernel_rfl
  have h := run_slice_lh (P := Try.prog) W 23 (some ⟨g, 0, none⟩) L cap (by kernel_rfl) .i64 .i64 l h (by omega) (by omega) (by omega)
  rw [h, hz]
  simp [sliced, Addr.add_mid]
  omega

set_option maxHeartbeats 4000000 in
set_option maxRecDepth 100000 in
theorem known_ok (w : World) : Calls Try.prog 16 #[] w fun e w' => e = .returned (.bool true) ∧ Kept [] w w' := by
  have kcv := fun (w : World) (C : Array Value) (n c : Nat) => Lib.run_convert_bytes_const (P := Try.prog) w 23 5 C n c Try.underlying23 Try.underlying5
  have HP : Hid (∀ (W : World), Calls Try.prog 10 #[.slice (some ⟨W.heap.size, 0, none⟩) 34 34, .int .i64 16] (W.alloc (.cells (bys row34).toArray 5 (34, 35))) fun e w' => ∃ gO bc gK kc, e = .returned (.tuple #[.slice (some ⟨gO, 0, none⟩) 22 bc, .slice (some ⟨gK, 0, none⟩) 3 kc, .int .i64 0]) ∧ Sl w' (some ⟨gO, 0, none⟩) out22 ∧ Blks w' (some ⟨gK, 0, none⟩) bl3 ∧ 22 ≤ bc ∧ bc ≤ 9223372036854775807 ∧ 3 ≤ kc ∧ Kept [] W w') := fun W => by
    have h := bpack_any (some ⟨W.heap.size, 0, none⟩) 34 34 16 row34 _ rfl (by decide) (new_sl3 W row34 (34, 35))
    rw [pack34] at h
    refine h.mono fun e w' ha => ?_
    obtain ⟨bo, bc, ko, kc, he, h1, h2, h3⟩ := ha
    obtain ⟨gO, rfl, hs, hle, _, hbm⟩ := h1.at0 (by decide)
    obtain ⟨gK, rfl, hk, hle2, _, _⟩ := h2.at0 (by decide)
    exact ⟨gO, bc, gK, kc, he, hs, hk, hle, hbm, hle2, ((Kept.refl [] W).alloc _).trans (Kept.of_below h3) (by simp)⟩
  have HOP : Hid (∀ (ga : Option Addr) (n ca : Nat) (W : World), four4.length = n → n ≤ ca → Sl W ga four4 → Calls Try.prog 18 #[.slice ga n ca, .agg #[.int .i64 16, .int .i64 4, .int .i64 16, .int .i64 3625542228]] W fun e w' => ∃ gx xc, e = .returned (.tuple #[.slice (some ⟨gx, 0, none⟩) 16 xc, .int .i64 0]) ∧ Sl w' (some ⟨gx, 0, none⟩) xs16 ∧ Below W.heap.size W w') := fun ga n ca W hn hc hs => by
    have h := open_any ga n ca ⟨16, 4, 16, 3625542228⟩ four4 W hn hc hs
    rw [opn4] at h
    refine h.mono fun e w' ha => ?_
    obtain ⟨bo, bc, he, h1, h3⟩ := ha
    obtain ⟨gO, rfl, hs, hle, _⟩ := OwnB.at0 h1 (by decide)
    exact ⟨gO, bc, he, hs, h3⟩
  have HNM := hide num_any
  have HCV : Hid (∀ W, Calls Try.prog 35 #[.int .i64 16, .int .i64 15, .int .i64 2] W fun e w' => e = .returned (.tuple #[.int .i64 0, .int .i64 2]) ∧ ∃ k, w' = W.drewN k) := fun W => cover_any 16 15 2 W
  go_enter Try.func16, Try.ntmps16
  go_upto_region 3 with (go_at_call 10; refine (HP.out _).mono ?_; rintro e w1 ⟨gO, bc, gK, kc, rfl, hsO, hbK, hbc, hbm, hkc, hk1⟩; have HSO := hide hsO; have HBK := hide hbK; have HK1 := hide hk1; clear hsO hbK hk1 HP)
  have HRG : Hid (w1.rangeAt gK 4 [.int .i64 16, .int .i64 4, .int .i64 16, .int .i64 3625542228]) := by
    obtain ⟨b', off', e, hc⟩ := HBK.out 1 (by decide)
    cases e
    exact hc
  have i1 : w1.cell? ⟨gK, 1, none⟩ = some (.int .i64 16) := by
    obtain ⟨b', off', e, hc⟩ := HBK.out 0 (by decide)
    cases e
    exact hc 1 _ rfl
  have i4 : w1.cell? ⟨gK, 4, none⟩ = some (.int .i64 16) := HRG.out 0 _ rfl
  have i5 : w1.cell? ⟨gK, 5, none⟩ = some (.int .i64 4) := HRG.out 1 _ rfl
  have i6 : w1.cell? ⟨gK, 6, none⟩ = some (.int .i64 16) := HRG.out 2 _ rfl
  have i10 : w1.cell? ⟨gK, 10, none⟩ = some (.int .i64 2) := by
    obtain ⟨b', off', e, hc⟩ := HBK.out 2 (by decide)
    cases e
    exact hc 2 _ rfl
  clear kcv
  go_upto_region 5 with (go_at_call 13; refine (HNM.out _ _).mono ?_; rintro e w' ⟨rfl, hww⟩; obtain rfl := hww.symm)
  clear i1 i4 i5 i6 i10
  have hcut := fun W => Try.cutMid W gO 22 bc 16 20 (by omega) (by omega) (by omega)
  have hb20 : (20 : Int) ≤ (bc : Int) := by omega
  have hb16 : ¬ bc = 16 := by omega
  have HS4 : Hid (Sl w1 (some ⟨gO, 16, none⟩) four4) := by
    have := HSO.out.cut 16 4 (by decide)
    exact this
  refine wp_region_held_drew (S := fun w' => Kept [] w1 w') (by kernel_rfl) ((Kept.refl [] w1).drew) (fun h0 => ?_)
  generalize World.drew w1 = v0 at h0 ⊢
  refine wpAnyH_take (i := 1) (v := .slice (some ⟨gO, 0, none⟩) 22 bc) rfl (by kernel_rfl) (by kernel_rfl) (by kernel_rfl) (fun _ _ _ h => h) (Or.inl ⟨by rfl, fun w hSw => by go_simp⟩) h0 ?_
  try simp only [List.getElem_toArray, List.getElem_cons_zero, List.getElem_cons_succ, Act.put, List.setIfInBounds_toArray, List.set_cons_zero, List.set_cons_succ]
  refine wpAnyH_take (i := 2) (v := .slice (some ⟨gO, 16, none⟩) 4 (bc - 16)) rfl (by kernel_rfl) (by kernel_rfl) (by kernel_rfl) (fun _ _ _ h => h) (Or.inl ⟨by rfl, fun w hSw => by have c0 := hcut w; have c1 := hb20; have c2 := hb16; go_simp⟩) h0 ?_
  try simp only [List.getElem_toArray, List.getElem_cons_zero, List.getElem_cons_succ, Act.put, List.setIfInBounds_toArray, List.set_cons_zero, List.set_cons_succ]
  refine wpAnyH_take (i := 4) (v := .slice (some ⟨gK, 0, none⟩) 3 kc) rfl (by kernel_rfl) (by kernel_rfl) (by kernel_rfl) (fun _ _ _ h => h) (Or.inl ⟨by rfl, fun w hSw => by go_simp⟩) h0 ?_
  try simp only [List.getElem_toArray, List.getElem_cons_zero, List.getElem_cons_succ, Act.put, List.setIfInBounds_toArray, List.set_cons_zero, List.set_cons_succ]
  refine wpAnyH_take (i := 5) (v := .pointer (some ⟨gK, 4, none⟩)) rfl (by kernel_rfl) (by kernel_rfl) (by kernel_rfl) (fun _ _ _ h => h) (Or.inl ⟨by rfl, fun w hSw => by go_simp⟩) h0 ?_
  try simp only [List.getElem_toArray, List.getElem_cons_zero, List.getElem_cons_succ, Act.put, List.setIfInBounds_toArray, List.set_cons_zero, List.set_cons_succ]
  refine wpAnyH_take (i := 6) (v := .agg #[.int .i64 16, .int .i64 4, .int .i64 16, .int .i64 3625542228]) rfl (by kernel_rfl) (by kernel_rfl) (by kernel_rfl) (fun _ _ _ h => h) (yieldsIf_load_mid (by rfl) _ _ rfl gK 4 rfl _ _ (fun w h j v hv => Kept.cellOf h (HRG.out j v hv) (by simp)) Try.underlying45 rfl Try.infoBlk4) h0 ?_
  try simp only [List.getElem_toArray, List.getElem_cons_zero, List.getElem_cons_succ, Act.put, List.setIfInBounds_toArray, List.set_cons_zero, List.set_cons_succ]
  refine wpAnyH_ready (rs := [0]) (by kernel_rfl) (by simp) (AllReadyH.cons (i := 0) rfl (fun K hK => ?_) AllReadyH.nil)
  rw [if_pos (by rfl)]
  go_simp
  refine hK.out _ _ (h0.alloc _) (fun h1 => ?_)
  clear hK K
  try simp only [List.getElem_toArray, List.getElem_cons_zero, List.getElem_cons_succ, Act.put, List.setIfInBounds_toArray, List.set_cons_zero, List.set_cons_succ]
  obtain ⟨va, wa, hrun, hown, hka⟩ := run_freshB v0 four4 (some ⟨gO, 16, none⟩) 4 (bc - 16) rfl (HS4.out.kept h0 (by simp)) (by simp) (by omega)
  have HOW := hide hown
  have hsh := hown.shape
  obtain ⟨ga, ca, rfl, hca, hsa, _, _, _⟩ := hsh
  clear hown
  refine wpAnyH_ready (rs := [3]) (by kernel_rfl) (by simp) (AllReadyH.cons (i := 3) rfl (fun K hK => ?_) AllReadyH.nil)
  rw [if_pos (by rfl)]
  refine wp_append_run (.tmp 66) (.tmp 68) 23 rfl (.slice (some ⟨v0.heap.size, 0, none⟩) 0 0) (.slice (some ⟨gO, 16, none⟩) 4 (bc - 16)) rfl rfl _ wa hrun ?_
  have h2 : Kept [] w1 wa := h0.trans hka (by simp)
  refine hK.out _ _ h2 (fun h3 => ?_)
  clear hK K h1 h2 hrun hka HOW
  try simp only [List.getElem_toArray, List.getElem_cons_zero, List.getElem_cons_succ, Act.put, List.setIfInBounds_toArray, List.set_cons_zero, List.set_cons_succ]
  refine wpAnyH_ready (rs := [7]) (by kernel_rfl) (by simp) (AllReadyH.cons (i := 7) rfl (fun K hK => ?_) AllReadyH.nil)
  rw [if_pos (by rfl)]
  go_simp
  refine (HOP.out ga 4 ca wa rfl hca hsa).mono ?_
  rintro e w5 ⟨gx, xc, rfl, hsx, hb5⟩
  refine hK.out _ _ (h3.trans (Kept.of_below hb5) (by simp)) (fun h5 => ?_)
  clear hK K h3 hb5 hsa hca HOP
  try simp only [List.getElem_toArray, List.getElem_cons_zero, List.getElem_cons_succ, Act.put, List.setIfInBounds_toArray, List.set_cons_zero, List.set_cons_succ]
  refine wpAnyH_take (i := 8) (v := .tuple #[.slice (some ⟨gx, 0, none⟩) 16 xc, .int .i64 0]) rfl (by kernel_rfl) (by kernel_rfl) (by kernel_rfl) (fun _ _ _ h => h) (Or.inl ⟨by rfl, fun w hSw => by go_simp⟩) h5 ?_
  try simp only [List.getElem_toArray, List.getElem_cons_zero, List.getElem_cons_succ, Act.put, List.setIfInBounds_toArray, List.set_cons_zero, List.set_cons_succ]
  refine wpAnyH_take (i := 9) (v := .slice (some ⟨gx, 0, none⟩) 16 xc) rfl (by kernel_rfl) (by kernel_rfl) (by kernel_rfl) (fun _ _ _ h => h) (Or.inl ⟨by rfl, fun w hSw => by go_simp⟩) h5 ?_
  try simp only [List.getElem_toArray, List.getElem_cons_zero, List.getElem_cons_succ, Act.put, List.setIfInBounds_toArray, List.set_cons_zero, List.set_cons_succ]
  refine wpAnyH_take (i := 10) (v := .int .i64 0) rfl (by kernel_rfl) (by kernel_rfl) (by kernel_rfl) (fun _ _ _ h => h) (Or.inl ⟨by rfl, fun w hSw => by go_simp⟩) h5 ?_
  try simp only [List.getElem_toArray, List.getElem_cons_zero, List.getElem_cons_succ, Act.put, List.setIfInBounds_toArray, List.set_cons_zero, List.set_cons_succ]
  refine wpAnyH_take (i := 11) (v := .slice (some ⟨gx, 0, none⟩) 16 xc) rfl (by kernel_rfl) (by kernel_rfl) (by kernel_rfl) (fun _ _ _ h => h) (Or.inl ⟨by rfl, fun w hSw => by go_simp⟩) h5 ?_
  try simp only [List.getElem_toArray, List.getElem_cons_zero, List.getElem_cons_succ, Act.put, List.setIfInBounds_toArray, List.set_cons_zero, List.set_cons_succ]
  refine wpAnyH_take (i := 12) (v := .int .i64 0) rfl (by kernel_rfl) (by kernel_rfl) (by kernel_rfl) (fun _ _ _ h => h) (Or.inl ⟨by rfl, fun w hSw => by go_simp⟩) h5 ?_
  try simp only [List.getElem_toArray, List.getElem_cons_zero, List.getElem_cons_succ, Act.put, List.setIfInBounds_toArray, List.set_cons_zero, List.set_cons_succ]
  refine wpAnyH_done (by kernel_rfl) ?_ _
  have HK5 : Hid (Kept [] w w5) := HK1.out.trans h5 (by simp)
  have HBK5 : Hid (Blks w5 (some ⟨gK, 0, none⟩) bl3) := HBK.out.kept h5 (by simp)
  have HSX := hide hsx
  clear hb20 hb16 h5 hsx hcut HS4 HRG HBK HSO HK1
  go_upto_region 7 with (go_at_call 35; refine (HCV.out _).mono ?_; rintro e w6 ⟨rfl, kq, hww⟩; have HD6 := hide hww; clear hww HCV)
  have hk6 : Kept [] w5 w6 := by rw [HD6.out]; exact (Kept.refl [] w5).drewN _
  have HK6 : Hid (Kept [] w w6) := HK5.out.trans hk6 (by simp)
  have hcs := conv_str w6 gx xc xs16 16 rfl (HSX.out.kept hk6 (by simp))
  have hbk6 := HBK5.out.kept hk6 (by simp)
  have HV1 : Hid (Calls Try.prog 19 #[.slice (some ⟨gK, 0, none⟩) 3 kc, .int .i64 34, .int .i64 16] w6 fun e w' => e = .returned (.bool true) ∧ Kept [] w6 w') := by
    have h := valid_any (some ⟨gK, 0, none⟩) 3 kc bl3 34 16 w6 rfl hbk6
    rw [valid34] at h
    exact h
  have HV2 : Hid (∀ W, Kept [] w6 W → Calls Try.prog 19 #[.slice (some ⟨gK, 0, none⟩) 3 kc, .int .i64 35, .int .i64 16] W fun e w' => e = .returned (.bool false) ∧ Kept [] W w') := fun W hW => by
    have h := valid_any (some ⟨gK, 0, none⟩) 3 kc bl3 35 16 W rfl (hbk6.kept hW (by simp))
    rw [valid35] at h
    exact h
  clear HD6 hk6 hbk6 HK5 HBK5 HSX
  go_wp2_with (first
    | (go_at_call 13; refine (HNM.out _ _).mono ?_; rintro e w' ⟨rfl, hww⟩; obtain rfl := hww.symm)
    | (have HA := HV1; go_at_call 19; refine HV1.out.mono ?_; rintro e w7 ⟨rfl, hk7⟩; have HK7 := hide hk7; clear hk7 HV1 HA)
    | (have HA := HV2; go_at_call 19; refine (HV2.out _ HK7.out).mono ?_; rintro e w8 ⟨rfl, hk8⟩; have HK8 := hide hk8; clear hk8 HV2 HA))
  go_ret
  exact ⟨rfl, (HK6.out.trans HK7.out (by simp)).trans HK8.out (by simp)⟩

end Go.Proofs.Ytdnbpklnkmgmkaa
