import Derived.Test.YtmklodligplbaabGreatM18al
import Derived.Test.YtmklodligplbaabGreatDr5l
import Derived.Test.YtmklodligplbaabGreatL18wl
namespace Go.Proofs.YtmklodligplbaabGreat
open Go.RowKit
open Dlt
set_option linter.unusedVariables false
set_option linter.unusedSimpArgs false
set_option maxHeartbeats 6400000 in
set_option maxRecDepth 100000 in
theorem fit_no (s : Sig) (ao : Option Addr) (n cap : Nat) (wo : Option Addr) (Z wc : Nat) (ws : List UInt8) (w : World) (hI : SigIn w s ao n cap) (hW : InB8 w wo Z wc ws) (hZ : Z ≤ 140737488351232) (hn : n ≤ 1000000) (hno : ∀ j, j < s.blocks.length → s.blocks.getD j wk0 ≠ weak s.width ws) :
  Calls Tryz.prog 41 #[.agg (s.cells (.slice ao n cap)).toArray, .slice wo Z wc] w fun e w' => e = .returned (.bool false) ∧ Kept [] w w' := by
 have hA := SigAt.new w s (.slice ao n cap)
 have hK : Kept [] w (w.alloc (.cells (s.cells (.slice ao n cap)).toArray 26)) := (Kept.refl [] w).alloc _
 obtain ⟨G, hG⟩ : ∃ G, w.heap.size = G := ⟨_, rfl⟩
 rw [hG] at hA
 have HI := hide hI
 have HW := hide hW
 have HNO := hide hno
 clear hI hW hno
 go_enter Tryz.func41, Tryz.ntmps41
 go_upto_region 1 with (fail)
 try rw [hG]
 clear hG
 generalize w.alloc (.cells (s.cells (.slice ao n cap)).toArray 26) = w1 at hA hK ⊢
 have hsu := refsum_n wo Z wc ws w1 HW.out.len (by omega) (HW.out.sl.kept hK (by simp))
 obtain ⟨sm, hsm⟩ : ∃ sm : Nat, Rol.sum ws = sm := ⟨_, rfl⟩
 rw [hsm] at hsu
 have HSM := hide hsm
 have HA := hide hA
 have HK := hide hK
 clear hsm hA hK
 go_upto_region 2 with (go_at_call 42; refine hsu.mono ?_; rintro r w' ⟨rfl, hw⟩; obtain rfl := hw.symm; clear hsu)
 have HIN : Hid (Kept [] w1 w1) := Kept.refl _ _
 go_wp2
 go_loopw [6] (fun x wr => ∃ k : Nat, k ≤ n ∧ x = .int .i64 k ∧ Hid (Kept [] w1 wr)) (fun x wr => n - (intOf x).toNat)
 case atStart => exact ⟨0, Nat.zero_le _, rfl, HIN⟩
 case round =>
  clear HIN
  obtain ⟨k, hk, rfl, HP⟩ := hrel
  have hAr := HA.out.kept HP.out (by simp)
  have cv := hAr.cell (Sig.cv _ _)
  have cw := hAr.cell (Sig.c0 _ _)
  by_cases hlt : k < n
  ·have hlb : k < s.blocks.length := by rw [HI.out.len]; exact hlt
   obtain ⟨b, off, rfl, hrg⟩ := (HI.out.at_.kept (HK.out.trans HP.out (by simp)) (by simp)) k hlb
   have hne := HNO.out k hlb
   obtain ⟨e, he⟩ : ∃ e, s.blocks.getD k wk0 = e := ⟨_, rfl⟩
   rw [he] at hrg hne
   have cs : wr.cell? ⟨b, off + k * 33, none⟩ = some (.int .i64 e.sum) := by have := hrg 0 _ e.su; simpa using this
   have hri := wk_range hrg
   have hile := idlen e.hid
   have HOF := hide (fun X (hX : Kept [] wr X) => rof_ok s.width wo Z wc ws X HW.out.len hZ (HW.out.sl.kept ((HK.out.trans HP.out (by simp)).trans hX (by simp)) (by simp)) HW.out.nil)
   obtain ⟨I1, hI1⟩ : ∃ I1, Sha.ident s.width ws = I1 := ⟨_, rfl⟩
   have hI1l : I1.length = 32 := by rw [← hI1]; exact Sha.ident_len _ _
   rw [hI1] at HOF
   have heid := e.hid
   have hnw : ¬ (e.sum = (sm : Nat) ∧ e.id = I1) := fun h => hne (weak_of.2 (by rw [HSM.out, hI1]; exact h))
   obtain ⟨es, hes⟩ : ∃ es, e.sum = es := ⟨_, rfl⟩
   obtain ⟨ei, hei⟩ : ∃ ei, e.id = ei := ⟨_, rfl⟩
   rw [hes] at cs hnw
   rw [hei] at hri hile hnw heid
   obtain ⟨wd, hwd⟩ : ∃ wd, s.width = wd := ⟨_, rfl⟩
   rw [hwd] at cw HOF
   clear hne he hrg hes hei hI1 hlb hwd hAr
   by_cases hq : es = (sm : Nat)
   ·have hid : ¬ ei = I1 := fun h => hnw ⟨hq, h⟩
    have heq : ∀ W, (Op.equalIn 10000 23 (.agg (bys ei).toArray) (.agg (bys I1).toArray)).run Tryz.prog W = .ok false W := fun W => by rw [Tryz.eqlID ei I1 heid hI1l W, decide_eq_false hid]
    have hq1 : (es == ((sm : Nat) : Int)) = true := by simpa using hq
    clear hnw hid hq
    go_upto_region 5 with (fail)
    refine wp_region_held_drew (S := fun w' => Kept [] wr w') (by kernel_rfl) ((Kept.refl [] wr).drew) (fun h0 => ?_)
    generalize World.drew wr = v0 at h0  ⊢
    refine wpAnyH_take (i := 0) (v := .pointer (some ⟨G, 35, none⟩)) rfl (by kernel_rfl) (by kernel_rfl) (by kernel_rfl) (fun _ _ _ h => h) (Or.inl ⟨by rfl, fun w hSw => by go_simp⟩) h0 ?_
    try simp only [z1, z2, z3, z4, z5, z6, z7, z8]
    refine wpAnyH_take (i := 1) (v := .slice (some ⟨b, off, none⟩) n cap) rfl (by kernel_rfl) (by kernel_rfl) (by kernel_rfl) (fun _ _ _ h => h) (Or.inl ⟨by rfl, fun w hSw => by have c0 := Kept.cellOf hSw cv (by simp); go_simp⟩) h0 ?_
    try simp only [z1, z2, z3, z4, z5, z6, z7, z8]
    refine wpAnyH_take (i := 2) (v := .int .i64 k) rfl (by kernel_rfl) (by kernel_rfl) (by kernel_rfl) (fun _ _ _ h => h) (Or.inl ⟨by rfl, fun w hSw => by go_simp⟩) h0 ?_
    try simp only [z1, z2, z3, z4, z5, z6, z7, z8]
    refine wpAnyH_take (i := 3) (v := .pointer (some ⟨b, off + k * 33, none⟩)) rfl (by kernel_rfl) (by kernel_rfl) (by kernel_rfl) (fun _ _ _ h => h) (Or.inl ⟨by rfl, fun w hSw => by go_simp⟩) h0 ?_
    try simp only [z1, z2, z3, z4, z5, z6, z7, z8]
    refine wpAnyH_take (i := 4) (v := .pointer (some ⟨b, off + k * 33, none⟩)) rfl (by kernel_rfl) (by kernel_rfl) (by kernel_rfl) (fun _ _ _ h => h) (Or.inl ⟨by rfl, fun w hSw => by go_simp⟩) h0 ?_
    try simp only [z1, z2, z3, z4, z5, z6, z7, z8]
    refine wpAnyH_take (i := 5) (v := .int .i64 es) rfl (by kernel_rfl) (by kernel_rfl) (by kernel_rfl) (fun _ _ _ h => h) (Or.inl ⟨by rfl, fun w hSw => by have c0 := Kept.cellOf hSw cs (by simp); go_simp⟩) h0 ?_
    try simp only [z1, z2, z3, z4, z5, z6, z7, z8]
    refine wpAnyH_take (i := 6) (v := .int .i64 (sm : Nat)) rfl (by kernel_rfl) (by kernel_rfl) (by kernel_rfl) (fun _ _ _ h => h) (Or.inl ⟨by rfl, fun w hSw => by go_simp⟩) h0 ?_
    try simp only [z1, z2, z3, z4, z5, z6, z7, z8]
    refine wpAnyH_take (i := 7) (v := .bool true) rfl (by kernel_rfl) (by kernel_rfl) (by kernel_rfl) (fun _ _ _ h => h) (Or.inl ⟨by rfl, fun w hSw => by go_simp⟩) h0 ?_
    try simp only [z1, z2, z3, z4, z5, z6, z7, z8]
    refine wpAnyH_take (i := 8) (v := .bool true) rfl (by kernel_rfl) (by kernel_rfl) (by kernel_rfl) (fun _ _ _ h => h) (Or.inl ⟨by rfl, fun w hSw => by go_simp⟩) h0 ?_
    try simp only [z1, z2, z3, z4, z5, z6, z7, z8]
    refine wpAnyH_take (i := 9) (v := .pointer (some ⟨G, 35, none⟩)) rfl (by kernel_rfl) (by kernel_rfl) (by kernel_rfl) (fun _ _ _ h => h) (Or.inl ⟨by rfl, fun w hSw => by go_simp⟩) h0 ?_
    try simp only [z1, z2, z3, z4, z5, z6, z7, z8]
    refine wpAnyH_take (i := 10) (v := .slice (some ⟨b, off, none⟩) n cap) rfl (by kernel_rfl) (by kernel_rfl) (by kernel_rfl) (fun _ _ _ h => h) (Or.inl ⟨by rfl, fun w hSw => by have c0 := Kept.cellOf hSw cv (by simp); go_simp⟩) h0 ?_
    try simp only [z1, z2, z3, z4, z5, z6, z7, z8]
    refine wpAnyH_take (i := 11) (v := .int .i64 k) rfl (by kernel_rfl) (by kernel_rfl) (by kernel_rfl) (fun _ _ _ h => h) (Or.inl ⟨by rfl, fun w hSw => by go_simp⟩) h0 ?_
    try simp only [z1, z2, z3, z4, z5, z6, z7, z8]
    refine wpAnyH_take (i := 12) (v := .pointer (some ⟨b, off + k * 33, none⟩)) rfl (by kernel_rfl) (by kernel_rfl) (by kernel_rfl) (fun _ _ _ h => h) (Or.inl ⟨by rfl, fun w hSw => by go_simp⟩) h0 ?_
    try simp only [z1, z2, z3, z4, z5, z6, z7, z8]
    refine wpAnyH_take (i := 13) (v := .pointer (some ⟨b, off + k * 33 + 1, none⟩)) rfl (by kernel_rfl) (by kernel_rfl) (by kernel_rfl) (fun _ _ _ h => h) (Or.inl ⟨by rfl, fun w hSw => by go_simp⟩) h0 ?_
    try simp only [z1, z2, z3, z4, z5, z6, z7, z8]
    refine wpAnyH_take (i := 14) (v := .agg (bys ei).toArray) rfl (by kernel_rfl) (by kernel_rfl) (by kernel_rfl) (fun _ _ _ h => h) (yieldsIf_load_mid (by rfl) _ _ rfl b (off + k * 33 + 1) rfl (bys ei) _ (fun W h => fun j u hu => Kept.cellOf h (hri j u hu) (by simp)) Tryz.underlying23 rfl hile) h0 ?_
    try simp only [z1, z2, z3, z4, z5, z6, z7, z8]
    refine wpAnyH_take (i := 15) (v := .pointer (some ⟨G, 0, none⟩)) rfl (by kernel_rfl) (by kernel_rfl) (by kernel_rfl) (fun _ _ _ h => h) (Or.inl ⟨by rfl, fun w hSw => by go_simp⟩) h0 ?_
    try simp only [z1, z2, z3, z4, z5, z6, z7, z8]
    refine wpAnyH_take (i := 16) (v := .int .i64 wd) rfl (by kernel_rfl) (by kernel_rfl) (by kernel_rfl) (fun _ _ _ h => h) (Or.inl ⟨by rfl, fun w hSw => by have c0 := Kept.cellOf hSw cw (by simp); go_simp⟩) h0 ?_
    try simp only [z1, z2, z3, z4, z5, z6, z7, z8]
    refine wpAnyH_take (i := 17) (v := .slice wo Z wc) rfl (by kernel_rfl) (by kernel_rfl) (by kernel_rfl) (fun _ _ _ h => h) (Or.inl ⟨by rfl, fun w hSw => by go_simp⟩) h0 ?_
    try simp only [z1, z2, z3, z4, z5, z6, z7, z8]
    refine wpAnyH_ready (rs := [18]) (by kernel_rfl) (by simp) (AllReadyH.cons (i := 18) rfl (fun K hK => ?_) AllReadyH.nil)
    rw [if_pos (by rfl)]
    go_simp
    refine (HOF.out v0 h0).mono ?_
    rintro e v1 ⟨rfl, hk18⟩
    refine hK.out _ _ (h0.trans hk18 (by simp)) (fun h1 => ?_)
    clear hK K
    try simp only [z1, z2, z3, z4, z5, z6, z7, z8]
    clear hk18 h0
    refine wpAnyH_take (i := 19) (v := .bool false) rfl (by kernel_rfl) (by kernel_rfl) (by kernel_rfl) (fun _ _ _ h => h) (Or.inl ⟨by rfl, fun w hSw => by go_simp⟩) h1 ?_
    try simp only [z1, z2, z3, z4, z5, z6, z7, z8]
    refine wpAnyH_take (i := 20) (v := .bool false) rfl (by kernel_rfl) (by kernel_rfl) (by kernel_rfl) (fun _ _ _ h => h) (Or.inl ⟨by rfl, fun w hSw => by go_simp⟩) h1 ?_
    try simp only [z1, z2, z3, z4, z5, z6, z7, z8]
    refine wpAnyH_done (by kernel_rfl) ?_ _
    have HPF := hide (HP.out.trans h1 (by simp))
    clear h1 HP HOF heq hri cs cw cv hile
    go_wp2
    go_roundw
    case rel => exact ⟨k + 1, by omega, by go_num, HPF⟩
    case measure => simp [intOf]; omega
   ·have hq1 : (es == ((sm : Nat) : Int)) = false := by simpa using hq
    clear hnw hq
    go_upto_region 5 with (fail)
    refine wp_region_held_drew (S := fun w' => Kept [] wr w') (by kernel_rfl) ((Kept.refl [] wr).drew) (fun h0 => ?_)
    generalize World.drew wr = v0 at h0  ⊢
    refine wpAnyH_take (i := 0) (v := .pointer (some ⟨G, 35, none⟩)) rfl (by kernel_rfl) (by kernel_rfl) (by kernel_rfl) (fun _ _ _ h => h) (Or.inl ⟨by rfl, fun w hSw => by go_simp⟩) h0 ?_
    try simp only [z1, z2, z3, z4, z5, z6, z7, z8]
    refine wpAnyH_take (i := 1) (v := .slice (some ⟨b, off, none⟩) n cap) rfl (by kernel_rfl) (by kernel_rfl) (by kernel_rfl) (fun _ _ _ h => h) (Or.inl ⟨by rfl, fun w hSw => by have c0 := Kept.cellOf hSw cv (by simp); go_simp⟩) h0 ?_
    try simp only [z1, z2, z3, z4, z5, z6, z7, z8]
    refine wpAnyH_take (i := 2) (v := .int .i64 k) rfl (by kernel_rfl) (by kernel_rfl) (by kernel_rfl) (fun _ _ _ h => h) (Or.inl ⟨by rfl, fun w hSw => by go_simp⟩) h0 ?_
    try simp only [z1, z2, z3, z4, z5, z6, z7, z8]
    refine wpAnyH_take (i := 3) (v := .pointer (some ⟨b, off + k * 33, none⟩)) rfl (by kernel_rfl) (by kernel_rfl) (by kernel_rfl) (fun _ _ _ h => h) (Or.inl ⟨by rfl, fun w hSw => by go_simp⟩) h0 ?_
    try simp only [z1, z2, z3, z4, z5, z6, z7, z8]
    refine wpAnyH_take (i := 4) (v := .pointer (some ⟨b, off + k * 33, none⟩)) rfl (by kernel_rfl) (by kernel_rfl) (by kernel_rfl) (fun _ _ _ h => h) (Or.inl ⟨by rfl, fun w hSw => by go_simp⟩) h0 ?_
    try simp only [z1, z2, z3, z4, z5, z6, z7, z8]
    refine wpAnyH_take (i := 5) (v := .int .i64 es) rfl (by kernel_rfl) (by kernel_rfl) (by kernel_rfl) (fun _ _ _ h => h) (Or.inl ⟨by rfl, fun w hSw => by have c0 := Kept.cellOf hSw cs (by simp); go_simp⟩) h0 ?_
    try simp only [z1, z2, z3, z4, z5, z6, z7, z8]
    refine wpAnyH_take (i := 6) (v := .int .i64 (sm : Nat)) rfl (by kernel_rfl) (by kernel_rfl) (by kernel_rfl) (fun _ _ _ h => h) (Or.inl ⟨by rfl, fun w hSw => by go_simp⟩) h0 ?_
    try simp only [z1, z2, z3, z4, z5, z6, z7, z8]
    refine wpAnyH_take (i := 7) (v := .bool false) rfl (by kernel_rfl) (by kernel_rfl) (by kernel_rfl) (fun _ _ _ h => h) (Or.inl ⟨by rfl, fun w hSw => by go_simp⟩) h0 ?_
    try simp only [z1, z2, z3, z4, z5, z6, z7, z8]
    refine wpAnyH_take (i := 8) (v := .bool false) rfl (by kernel_rfl) (by kernel_rfl) (by kernel_rfl) (fun _ _ _ h => h) (Or.inl ⟨by rfl, fun w hSw => by go_simp⟩) h0 ?_
    try simp only [z1, z2, z3, z4, z5, z6, z7, z8]
    refine wpAnyH_take (i := 9) (v := undef) rfl (by kernel_rfl) (by kernel_rfl) (by kernel_rfl) (fun _ _ _ h => h) (Or.inr ⟨by kernel_rfl, rfl⟩) h0 ?_
    try simp only [z1, z2, z3, z4, z5, z6, z7, z8]
    refine wpAnyH_take (i := 10) (v := undef) rfl (by kernel_rfl) (by kernel_rfl) (by kernel_rfl) (fun _ _ _ h => h) (Or.inr ⟨by kernel_rfl, rfl⟩) h0 ?_
    try simp only [z1, z2, z3, z4, z5, z6, z7, z8]
    refine wpAnyH_take (i := 11) (v := undef) rfl (by kernel_rfl) (by kernel_rfl) (by kernel_rfl) (fun _ _ _ h => h) (Or.inr ⟨by kernel_rfl, rfl⟩) h0 ?_
    try simp only [z1, z2, z3, z4, z5, z6, z7, z8]
    refine wpAnyH_take (i := 12) (v := undef) rfl (by kernel_rfl) (by kernel_rfl) (by kernel_rfl) (fun _ _ _ h => h) (Or.inr ⟨by kernel_rfl, rfl⟩) h0 ?_
    try simp only [z1, z2, z3, z4, z5, z6, z7, z8]
    refine wpAnyH_take (i := 13) (v := undef) rfl (by kernel_rfl) (by kernel_rfl) (by kernel_rfl) (fun _ _ _ h => h) (Or.inr ⟨by kernel_rfl, rfl⟩) h0 ?_
    try simp only [z1, z2, z3, z4, z5, z6, z7, z8]
    refine wpAnyH_take (i := 14) (v := undef) rfl (by kernel_rfl) (by kernel_rfl) (by kernel_rfl) (fun _ _ _ h => h) (Or.inr ⟨by kernel_rfl, rfl⟩) h0 ?_
    try simp only [z1, z2, z3, z4, z5, z6, z7, z8]
    refine wpAnyH_take (i := 15) (v := undef) rfl (by kernel_rfl) (by kernel_rfl) (by kernel_rfl) (fun _ _ _ h => h) (Or.inr ⟨by kernel_rfl, rfl⟩) h0 ?_
    try simp only [z1, z2, z3, z4, z5, z6, z7, z8]
    refine wpAnyH_take (i := 16) (v := undef) rfl (by kernel_rfl) (by kernel_rfl) (by kernel_rfl) (fun _ _ _ h => h) (Or.inr ⟨by kernel_rfl, rfl⟩) h0 ?_
    try simp only [z1, z2, z3, z4, z5, z6, z7, z8]
    refine wpAnyH_take (i := 17) (v := undef) rfl (by kernel_rfl) (by kernel_rfl) (by kernel_rfl) (fun _ _ _ h => h) (Or.inr ⟨by kernel_rfl, rfl⟩) h0 ?_
    try simp only [z1, z2, z3, z4, z5, z6, z7, z8]
    refine wpAnyH_take (i := 18) (v := undef) rfl (by kernel_rfl) (by kernel_rfl) (by kernel_rfl) (fun _ _ _ h => h) (Or.inr ⟨by kernel_rfl, rfl⟩) h0 ?_
    try simp only [z1, z2, z3, z4, z5, z6, z7, z8]
    refine wpAnyH_take (i := 19) (v := undef) rfl (by kernel_rfl) (by kernel_rfl) (by kernel_rfl) (fun _ _ _ h => h) (Or.inr ⟨by kernel_rfl, rfl⟩) h0 ?_
    try simp only [z1, z2, z3, z4, z5, z6, z7, z8]
    refine wpAnyH_take (i := 20) (v := .bool false) rfl (by kernel_rfl) (by kernel_rfl) (by kernel_rfl) (fun _ _ _ h => h) (Or.inl ⟨by rfl, fun w hSw => by go_simp⟩) h0 ?_
    try simp only [z1, z2, z3, z4, z5, z6, z7, z8]
    refine wpAnyH_done (by kernel_rfl) ?_ _
    have HPF := hide (HP.out.trans h0 (by simp))
    clear h0 HP HOF hri cs cw cv hile
    go_wp2
    go_roundw
    case rel => exact ⟨k + 1, by omega, by go_num, HPF⟩
    case measure => simp [intOf]; omega
  ·obtain rfl : k = n := by omega
   have HKF := hide (HK.out.trans HP.out (by simp))
   clear hAr cw HP
   go_wp2
   go_ret
   exact ⟨rfl, HKF.out⟩
set_option maxHeartbeats 6400000 in
set_option maxRecDepth 100000 in
theorem literal18_ok (s : Sig) (ao : Option Addr) (n cap : Nat) (Z : Nat) (hZ : s.size = (Z : Int)) (hZ1 : 16 ≤ Z) (hZ2 : Z ≤ 4096) (bo : Option Addr) (bc : Nat) (po : Option Addr) (m pc : Nat) (bs : List UInt8) (w : World) (hI : SigIn w s ao n cap) (hn : n ≤ 1000000) (hB : InB8 w bo m bc bs) (hP : InB8 w po m pc bs) (hm : m ≤ 131072) (hno : ∀ q, q + Z ≤ m → ∀ j, j < s.blocks.length → s.blocks.getD j wk0 ≠ weak s.width ((bs.drop q).take Z)) :
  Calls Tryz.prog 11 #[.agg (s.cells (.slice ao n cap)).toArray, .slice bo m bc, .slice po m pc] w fun e w' => e = .returned (.bool true) ∧ Kept [] w w' := by
 have hA := SigAt.new w s (.slice ao n cap)
 have hK : Kept [] w (w.alloc (.cells (s.cells (.slice ao n cap)).toArray 26)) := (Kept.refl [] w).alloc _
 obtain ⟨G, hG⟩ : ∃ G, w.heap.size = G := ⟨_, rfl⟩
 rw [hG] at hA
 have HI := hide hI
 have HB := hide hB
 have HP0 := hide hP
 have HNO := hide hno
 have HZ := hide hZ
 clear hI hB hP hno hZ
 go_enter Tryz.func11, Tryz.ntmps11
 go_upto_region 1 with (fail)
 try rw [hG]
 clear hG
 generalize w.alloc (.cells (s.cells (.slice ao n cap)).toArray 26) = w1 at hA hK ⊢
 have HA := hide hA
 have HK := hide hK
 have HIN : Hid (Kept [] w1 w1) := Kept.refl _ _
 clear hA hK
 go_wp2
 go_loopw [7] (fun x wr => ∃ q : Nat, q ≤ m ∧ x = .int .i64 q ∧ Hid (Kept [] w1 wr)) (fun x wr => m - (intOf x).toNat)
 case atStart => exact ⟨0, Nat.zero_le _, rfl, HIN⟩
 case round =>
  clear HIN
  obtain ⟨q, hq, rfl, HP⟩ := hrel
  have HAr := hide (HA.out.kept HP.out (by simp))
  have c1 : wr.cell? ⟨G, 1, none⟩ = some (.int .i64 (Z : Int)) := by have := HAr.out.cell (Sig.c1 _ _); rw [HZ.out] at this; exact this
  have hwa : IntKind.i64.wrap ((q : Int) + (Z : Int)) = (q : Int) + (Z : Int) := wrap64 (by omega) (by omega)
  have HKr := hide (HK.out.trans HP.out (by simp))
  by_cases hlt : q + Z ≤ m
  ·have hle : (q : Int) + (Z : Int) ≤ (m : Int) := by omega
   obtain ⟨co, cc, hcut, hcin⟩ := cut_both (HP0.out.kept HKr.out) q (q + Z) Z rfl hlt
   rw [show ((q + Z : Nat) : Int) = (q : Int) + (Z : Int) by omega] at hcut
   have HFT := hide (fun X (hX : Kept [] wr X) => fit_no s ao n cap co Z cc ((bs.drop q).take Z) X (HI.out.kept (HKr.out.trans hX (by simp))) (hcin.kept hX) (by omega) hn (HNO.out q hlt))
   clear hcin
   go_upto_region 4 with (fail)
   refine wp_region_held_drew (S := fun w' => Kept [] wr w') (by kernel_rfl) ((Kept.refl [] wr).drew) (fun h0 => ?_)
   generalize World.drew wr = v0 at h0  ⊢
   refine wpAnyH_take (i := 0) (v := .agg (s.cells (.slice ao n cap)).toArray) rfl (by kernel_rfl) (by kernel_rfl) (by kernel_rfl) (fun _ _ _ h => h) (yieldsIf_load_mid (by rfl) _ _ rfl G 0 rfl (s.cells (.slice ao n cap)) _ (fun W h => (HAr.out.kept h (by simp)).range) Tryz.underlying26 rfl (Tryz.infoSig _ _)) h0 ?_
   try simp only [z1, z2, z3, z4, z5, z6, z7, z8]
   refine wpAnyH_take (i := 1) (v := .slice po m pc) rfl (by kernel_rfl) (by kernel_rfl) (by kernel_rfl) (fun _ _ _ h => h) (Or.inl ⟨by rfl, fun w hSw => by go_simp⟩) h0 ?_
   try simp only [z1, z2, z3, z4, z5, z6, z7, z8]
   refine wpAnyH_take (i := 2) (v := .int .i64 q) rfl (by kernel_rfl) (by kernel_rfl) (by kernel_rfl) (fun _ _ _ h => h) (Or.inl ⟨by rfl, fun w hSw => by go_simp⟩) h0 ?_
   try simp only [z1, z2, z3, z4, z5, z6, z7, z8]
   refine wpAnyH_take (i := 3) (v := .int .i64 q) rfl (by kernel_rfl) (by kernel_rfl) (by kernel_rfl) (fun _ _ _ h => h) (Or.inl ⟨by rfl, fun w hSw => by go_simp⟩) h0 ?_
   try simp only [z1, z2, z3, z4, z5, z6, z7, z8]
   refine wpAnyH_take (i := 4) (v := .pointer (some ⟨G, 1, none⟩)) rfl (by kernel_rfl) (by kernel_rfl) (by kernel_rfl) (fun _ _ _ h => h) (Or.inl ⟨by rfl, fun w hSw => by go_simp⟩) h0 ?_
   try simp only [z1, z2, z3, z4, z5, z6, z7, z8]
   refine wpAnyH_take (i := 5) (v := .int .i64 (Z : Int)) rfl (by kernel_rfl) (by kernel_rfl) (by kernel_rfl) (fun _ _ _ h => h) (Or.inl ⟨by rfl, fun w hSw => by have c0 := Kept.cellOf hSw c1 (by simp); go_simp⟩) h0 ?_
   try simp only [z1, z2, z3, z4, z5, z6, z7, z8]
   refine wpAnyH_take (i := 6) (v := .int .i64 ((q : Int) + (Z : Int))) rfl (by kernel_rfl) (by kernel_rfl) (by kernel_rfl) (fun _ _ _ h => h) (Or.inl ⟨by rfl, fun w hSw => by go_simp⟩) h0 ?_
   try simp only [z1, z2, z3, z4, z5, z6, z7, z8]
   refine wpAnyH_take (i := 7) (v := .slice co Z cc) rfl (by kernel_rfl) (by kernel_rfl) (by kernel_rfl) (fun _ _ _ h => h) (Or.inl ⟨by rfl, fun w hSw => by have c0 := hcut w; go_simp⟩) h0 ?_
   try simp only [z1, z2, z3, z4, z5, z6, z7, z8]
   refine wpAnyH_ready (rs := [8]) (by kernel_rfl) (by simp) (AllReadyH.cons (i := 8) rfl (fun K hK => ?_) AllReadyH.nil)
   rw [if_pos (by rfl)]
   go_simp
   refine (HFT.out v0 h0).mono ?_
   rintro e v1 ⟨rfl, hk8⟩
   refine hK.out _ _ (h0.trans hk8 (by simp)) (fun h1 => ?_)
   clear hK K
   try simp only [z1, z2, z3, z4, z5, z6, z7, z8]
   clear hk8 h0
   refine wpAnyH_done (by kernel_rfl) ?_ _
   have HPF := hide (HP.out.trans h1 (by simp))
   clear h1 HP HFT hcut c1 HAr
   go_wp2
   go_roundw
   case rel => exact ⟨q + 1, by omega, by go_num, HPF⟩
   case measure => simp [intOf]; omega
  ·have hle : ¬ (q : Int) + (Z : Int) ≤ (m : Int) := by omega
   have hsa := same_yes bo po m bc pc bs wr HB.out.len (by omega) (HB.out.sl.kept HKr.out (by simp)) (HP0.out.sl.kept HKr.out (by simp))
   clear HP HAr
   go_wp2_with (go_at_call 22; refine hsa.mono ?_; rintro r wf ⟨rfl, nf, hwf⟩; obtain rfl := hwf; clear hsa)
   go_ret
   exact ⟨rfl, HKr.out.drewN nf⟩
set_option maxHeartbeats 12800000 in
set_option maxRecDepth 100000 in
theorem copies18_ok (s : Sig) (ao : Option Addr) (n cap : Nat) (Z : Nat) (hZ : s.size = (Z : Int)) (hZ1 : 16 ≤ Z) (hZ2 : Z ≤ 4096) (f c : Nat) (v : Value) (po : Option Addr) (m pc : Nat) (bs : List UInt8) (w : World) (hI : SigIn w s ao n cap) (hn : n ≤ 1000000) (hP : InB8 w po m pc bs) (hm : m ≤ 131072) (hc1 : 1 ≤ c) (hfc : f + c ≤ n) (hcm : c * Z ≤ m)
  (hyes : ∀ k, k < c → s.blocks.getD (f + k) wk0 = weak s.width ((bs.drop (k * Z)).take Z)) (hno : ∀ j, j < f → s.blocks.getD j wk0 ≠ weak s.width (bs.take Z)) :
  Calls Tryz.prog 12 #[.agg (s.cells (.slice ao n cap)).toArray, .agg (stp3 (f : Nat) (c : Nat) v).toArray, .slice po m pc] w fun e w' => e = .returned (.bool true) ∧ Kept [] w w' := by
 have hz := Tryz.zeroWeak
 have hA0 := SigAt.new w s (.slice ao n cap)
 have k1 : Kept [] w (w.alloc (.cells (s.cells (.slice ao n cap)).toArray 26)) := (Kept.refl [] w).alloc _
 have k2 : Kept [] (w.alloc (.cells (s.cells (.slice ao n cap)).toArray 26)) ((w.alloc (.cells (s.cells (.slice ao n cap)).toArray 26)).alloc (.cells (stp3 (f : Nat) (c : Nat) v).toArray 39)) := (Kept.refl [] _).alloc _
 have hA := hA0.kept k2 (by simp)
 have hY : ((w.alloc (.cells (s.cells (.slice ao n cap)).toArray 26)).alloc (.cells (stp3 (f : Nat) (c : Nat) v).toArray 39)).heap[w.heap.size + 1]? = some (.cells (stp3 (f : Nat) (c : Nat) v).toArray 39 (0, 0)) := heap_alloc2_new _ _ _
 have hK := k1.trans k2 (by simp)
 obtain ⟨G, hG⟩ : ∃ G, w.heap.size = G := ⟨_, rfl⟩
 rw [hG] at hA hY
 obtain ⟨Y, hYY⟩ : ∃ Y, G + 1 = Y := ⟨_, rfl⟩
 rw [hYY] at hY
 have HI := hide hI
 have HP0 := hide hP
 have HYE := hide hyes
 have HNO := hide hno
 have HZ := hide hZ
 clear hI hP hyes hno hZ hA0 k1 k2
 go_enter Tryz.func12, Tryz.ntmps12
 go_upto_region 1 with (fail)
 clear hG hYY
 generalize (w.alloc (.cells (s.cells (.slice ao n cap)).toArray 26)).alloc (.cells (stp3 (f : Nat) (c : Nat) v).toArray 39) = w1 at hA hK hY ⊢
 have HA := hide hA
 have HK := hide hK
 have HY := hide hY
 have HIN : Hid (Kept [] w1 w1) := Kept.refl _ _
 clear hA hK hY
 have hcb : c ≤ 131072 := by
  have : c * 1 ≤ c * Z := Nat.mul_le_mul_left _ (by omega)
  omega
 go_wp2
 go_loopw [7] (fun x wr => ∃ k : Nat, k ≤ c ∧ x = .int .i64 k ∧ Hid (Kept [] w1 wr)) (fun x wr => c - (intOf x).toNat)
 case atStart => exact ⟨0, Nat.zero_le _, rfl, HIN⟩
 case round =>
  clear HIN
  obtain ⟨k, hk, rfl, HP⟩ := hrel
  have HAr := hide (HA.out.kept HP.out (by simp))
  have hYr := (HP.out.block Y (heap_lt HY.out) (by simp)).trans HY.out
  have y0 : wr.cell? ⟨Y, 0, none⟩ = some (.int .i64 (f : Int)) := by rw [cell_of_row _ _ _ _ _ _ hYr]; rfl
  have y1c : wr.cell? ⟨Y, 1, none⟩ = some (.int .i64 (c : Int)) := by rw [cell_of_row _ _ _ _ _ _ hYr]; rfl
  have c1 : wr.cell? ⟨G, 1, none⟩ = some (.int .i64 (Z : Int)) := by have := HAr.out.cell (Sig.c1 _ _); rw [HZ.out] at this; exact this
  have HKr := hide (HK.out.trans HP.out (by simp))
  by_cases hlt : k < c
  ·have cv := HAr.out.cell (Sig.cv _ _)
   have hkz : k * Z + Z ≤ m := by
    have h1 : (k + 1) * Z ≤ c * Z := Nat.mul_le_mul_right _ hlt
    rw [Nat.add_mul, Nat.one_mul] at h1
    omega
   have hye := HYE.out k hlt
   obtain ⟨kz, hkz2⟩ : ∃ kz, k * Z = kz := ⟨_, rfl⟩
   rw [hkz2] at hkz hye
   have hm1 : IntKind.i64.wrap ((k : Int) * (Z : Int)) = (kz : Int) := by rw [← hkz2, ← Int.natCast_mul]; exact wrap64 (by omega) (by rw [hkz2]; omega)
   have hm0 : IntKind.i64.wrap ((k : Int) + 1) = (k : Int) + 1 := wrap64 (by omega) (by omega)
   have hm2 : IntKind.i64.wrap (((k : Int) + 1) * (Z : Int)) = (kz : Int) + (Z : Int) := by
    rw [Int.add_mul, Int.one_mul, ← Int.natCast_mul, hkz2]; exact wrap64 (by omega) (by omega)
   have hm3 : IntKind.i64.wrap ((f : Int) + (k : Int)) = ((f + k : Nat) : Int) := by rw [wrap64 (by omega) (by omega)]; simp
   obtain ⟨co, cc, hcut, hcin⟩ := cut_both (HP0.out.kept HKr.out) kz (kz + Z) Z rfl hkz
   rw [show ((kz + Z : Nat) : Int) = (kz : Int) + (Z : Int) by omega] at hcut
   obtain ⟨ws, hws⟩ : ∃ ws, (bs.drop kz).take Z = ws := ⟨_, rfl⟩
   rw [hws] at hcin hye
   have hlb : f + k < s.blocks.length := by rw [HI.out.len]; omega
   obtain ⟨b, off, rfl, hrg⟩ := (HI.out.at_.kept HKr.out (by simp)) (f + k) hlb
   obtain ⟨e, he⟩ : ∃ e, s.blocks.getD (f + k) wk0 = e := ⟨_, rfl⟩
   obtain ⟨fk, hfk⟩ : ∃ fk, f + k = fk := ⟨_, rfl⟩
   rw [he] at hrg hye
   rw [hfk] at hrg hm3
   have hfk2 : fk < n := by omega
   have hiw : (Tryz.prog.info? 62).map (·.size) = some e.cells.length := by rw [e.len]; exact Tryz.infoWeakS
   have hiA : (Tryz.prog.info? 62).map (·.size) = some e.cells.toArray.size := by rw [wk_size]; exact Tryz.infoWeakS
   have hzs : zeroK.size = e.cells.toArray.size := by rw [wk_size]; exact wk_size _
   have haW := wk_all e
   have hox := heap_new wr (.cells zeroK 62)
   have HWS := hide (And.intro hye hcin)
   clear hlb he hfk hws hkz2 hkz hye hcin hYr
   go_upto_region 6 with (first
    | refine wpList_load_mid rfl 62 (.tmp 35) rfl b (off + fk * 33) rfl e.cells _ hrg Tryz.underlying62 rfl hiw ?_
    | refine wpList_store_rowTo rfl 62 (.tmp 9) (.tmp 36) rfl rfl wr.heap.size e.cells.toArray rfl rfl 62 zeroK hox hiA hzs haW ?_)
   have ky : Kept [] wr ((wr.alloc (.cells zeroK 62)).setRow wr.heap.size e.cells.toArray) := ((Kept.refl [] wr).alloc _).trans (kept_row _ wr.heap.size _) (fun i hi hl => by simp only [List.mem_singleton] at hi; omega)
   have hBk : ((wr.alloc (.cells zeroK 62)).setRow wr.heap.size e.cells.toArray).heap[wr.heap.size]? = some (.cells e.cells.toArray 62 (0, 0)) := setRow_heap _ _ _ _ _ _ hox
   obtain ⟨Bk, hBkk⟩ : ∃ Bk, wr.heap.size = Bk := ⟨_, rfl⟩
   rw [hBkk] at hBk ky ⊢
   have HKy := hide ky
   clear hBkk hox hiA hzs haW hiw ky hrg y0 y1c cv hcut hm0 hm1 hm2 hm3
   generalize (wr.alloc (.cells zeroK 62)).setRow Bk e.cells.toArray = y1 at hBk HKy ⊢
   have hrB := range_row hBk
   have HK1 := hide (HKr.out.trans HKy.out (by simp))
   have hcy := HWS.out.2.kept HKy.out
   obtain ⟨wd, hwd⟩ : ∃ wd, s.width = wd := ⟨_, rfl⟩
   have cw := (HAr.out.kept HKy.out (by simp)).cell (Sig.c0 _ _)
   have hyy := HWS.out.1
   rw [hwd] at cw hyy
   obtain ⟨hy1, hy2⟩ := weak_of.1 hyy
   obtain ⟨sm, hsm⟩ : ∃ sm : Nat, Rol.sum ws = sm := ⟨_, rfl⟩
   rw [hsm] at hy1
   have cs : y1.cell? ⟨Bk, 0, none⟩ = some (.int .i64 (sm : Nat)) := by have := hrB 0 _ e.su; rw [hy1] at this; simpa using this
   have HSU := hide (fun X (hX : Kept [] y1 X) => show Calls Tryz.prog 42 #[.slice co Z cc] X fun e w' => e = .returned (.int .i64 (sm : Nat)) ∧ Kept [] X w' from (refsum_n co Z cc ws X hcy.len (by omega) (hcy.sl.kept hX (by simp))).mono fun e w' hh => ⟨by rw [hh.1, hsm], by rw [hh.2]; exact Kept.refl _ _⟩)
   have HOF := hide (fun X (hX : Kept [] y1 X) => rof_ok wd co Z cc ws X hcy.len (by omega) (hcy.sl.kept hX (by simp)) hcy.nil)
   obtain ⟨ei, hei⟩ : ∃ ei, Sha.ident wd ws = ei := ⟨_, rfl⟩
   have heil : ei.length = 32 := by rw [← hei]; exact Sha.ident_len _ _
   have hri : y1.rangeAt Bk 1 (bys ei) := by have := wk_range hrB; rw [hy2, hei] at this; simpa using this
   have hile := idlen heil
   rw [hei] at HOF
   have heq : ∀ W, (Op.equalIn 10000 23 (.agg (bys ei).toArray) (.agg (bys ei).toArray)).run Tryz.prog W = .ok true W := fun W => by rw [Tryz.eqlID ei ei heil heil W, decide_eq_true rfl]
   clear hrB hcy hyy hy1 hy2 hsm hei hBk HWS hwd
   refine wp_region_held_drew (S := fun w' => Kept [] y1 w') (by kernel_rfl) ((Kept.refl [] y1).drew) (fun h0 => ?_)
   generalize World.drew y1 = v0 at h0  ⊢
   refine wpAnyH_take (i := 0) (v := .pointer (some ⟨Bk, 0, none⟩)) rfl (by kernel_rfl) (by kernel_rfl) (by kernel_rfl) (fun _ _ _ h => h) (Or.inl ⟨by rfl, fun w hSw => by go_simp⟩) h0 ?_
   try simp only [z1, z2, z3, z4, z5, z6, z7, z8]
   refine wpAnyH_take (i := 1) (v := .int .i64 (sm : Nat)) rfl (by kernel_rfl) (by kernel_rfl) (by kernel_rfl) (fun _ _ _ h => h) (Or.inl ⟨by rfl, fun w hSw => by have c0 := Kept.cellOf hSw cs (by simp); go_simp⟩) h0 ?_
   try simp only [z1, z2, z3, z4, z5, z6, z7, z8]
   refine wpAnyH_take (i := 2) (v := .slice co Z cc) rfl (by kernel_rfl) (by kernel_rfl) (by kernel_rfl) (fun _ _ _ h => h) (Or.inl ⟨by rfl, fun w hSw => by go_simp⟩) h0 ?_
   try simp only [z1, z2, z3, z4, z5, z6, z7, z8]
   refine wpAnyH_ready (rs := [3]) (by kernel_rfl) (by simp) (AllReadyH.cons (i := 3) rfl (fun K hK => ?_) AllReadyH.nil)
   rw [if_pos (by rfl)]
   go_simp
   refine (HSU.out v0 h0).mono ?_
   rintro e v1 ⟨rfl, hk3⟩
   refine hK.out _ _ (h0.trans hk3 (by simp)) (fun h1 => ?_)
   clear hK K
   try simp only [z1, z2, z3, z4, z5, z6, z7, z8]
   clear hk3 h0
   refine wpAnyH_take (i := 4) (v := .bool false) rfl (by kernel_rfl) (by kernel_rfl) (by kernel_rfl) (fun _ _ _ h => h) (Or.inl ⟨by rfl, fun w hSw => by go_simp⟩) h1 ?_
   try simp only [z1, z2, z3, z4, z5, z6, z7, z8]
   refine wpAnyH_take (i := 5) (v := .bool false) rfl (by kernel_rfl) (by kernel_rfl) (by kernel_rfl) (fun _ _ _ h => h) (Or.inl ⟨by rfl, fun w hSw => by go_simp⟩) h1 ?_
   try simp only [z1, z2, z3, z4, z5, z6, z7, z8]
   refine wpAnyH_take (i := 6) (v := .pointer (some ⟨Bk, 1, none⟩)) rfl (by kernel_rfl) (by kernel_rfl) (by kernel_rfl) (fun _ _ _ h => h) (Or.inl ⟨by rfl, fun w hSw => by go_simp⟩) h1 ?_
   try simp only [z1, z2, z3, z4, z5, z6, z7, z8]
   refine wpAnyH_take (i := 7) (v := .agg (bys ei).toArray) rfl (by kernel_rfl) (by kernel_rfl) (by kernel_rfl) (fun _ _ _ h => h) (yieldsIf_load_mid (by rfl) _ _ rfl Bk 1 rfl (bys ei) _ (fun W h => fun j u hu => Kept.cellOf h (hri j u hu) (by simp)) Tryz.underlying23 rfl hile) h1 ?_
   try simp only [z1, z2, z3, z4, z5, z6, z7, z8]
   refine wpAnyH_take (i := 8) (v := .pointer (some ⟨G, 0, none⟩)) rfl (by kernel_rfl) (by kernel_rfl) (by kernel_rfl) (fun _ _ _ h => h) (Or.inl ⟨by rfl, fun w hSw => by go_simp⟩) h1 ?_
   try simp only [z1, z2, z3, z4, z5, z6, z7, z8]
   refine wpAnyH_take (i := 9) (v := .int .i64 wd) rfl (by kernel_rfl) (by kernel_rfl) (by kernel_rfl) (fun _ _ _ h => h) (Or.inl ⟨by rfl, fun w hSw => by have c0 := Kept.cellOf hSw cw (by simp); go_simp⟩) h1 ?_
   try simp only [z1, z2, z3, z4, z5, z6, z7, z8]
   refine wpAnyH_take (i := 10) (v := .slice co Z cc) rfl (by kernel_rfl) (by kernel_rfl) (by kernel_rfl) (fun _ _ _ h => h) (Or.inl ⟨by rfl, fun w hSw => by go_simp⟩) h1 ?_
   try simp only [z1, z2, z3, z4, z5, z6, z7, z8]
   refine wpAnyH_ready (rs := [11]) (by kernel_rfl) (by simp) (AllReadyH.cons (i := 11) rfl (fun K hK => ?_) AllReadyH.nil)
   rw [if_pos (by rfl)]
   go_simp
   refine (HOF.out v1 h1).mono ?_
   rintro e v2 ⟨rfl, hk11⟩
   refine hK.out _ _ (h1.trans hk11 (by simp)) (fun h2 => ?_)
   clear hK K
   try simp only [z1, z2, z3, z4, z5, z6, z7, z8]
   clear hk11 h1
   refine wpAnyH_take (i := 12) (v := .bool false) rfl (by kernel_rfl) (by kernel_rfl) (by kernel_rfl) (fun _ _ _ h => h) (Or.inl ⟨by rfl, fun w hSw => by go_simp⟩) h2 ?_
   try simp only [z1, z2, z3, z4, z5, z6, z7, z8]
   refine wpAnyH_take (i := 13) (v := .bool false) rfl (by kernel_rfl) (by kernel_rfl) (by kernel_rfl) (fun _ _ _ h => h) (Or.inl ⟨by rfl, fun w hSw => by go_simp⟩) h2 ?_
   try simp only [z1, z2, z3, z4, z5, z6, z7, z8]
   refine wpAnyH_done (by kernel_rfl) ?_ _
   have HPF := hide (HP.out.trans (HKy.out.trans h2 (by simp)) (by simp))
   clear h2 HP HSU HOF heq hri hile cs cw c1 HAr HKy HK1 HKr
   go_wp2
   go_roundw
   case rel => exact ⟨k + 1, by omega, by go_num, HPF⟩
   case measure => simp [intOf]; omega
  ·obtain rfl : k = c := by omega
   have hZm : Z ≤ m := by
    have : 1 * Z ≤ k * Z := Nat.mul_le_mul_right _ hc1
    omega
   have hZc : ¬ pc < Z := by have := HP0.out.le; omega
   have hcz := fun W => Tryz.cutBy W po m pc Z (by have := HP0.out.le; omega)
   have HIN2 : Hid (Kept [] w1 wr) := HP.out
   clear hYr HP
   go_upto_region 9 with (fail)
   clear c1 hcz y1c
   go_wp2
   go_loopw [11] (fun x wr2 => ∃ j : Nat, j ≤ f ∧ x = .int .i64 j ∧ Hid (Kept [] w1 wr2)) (fun x wr2 => f - (intOf x).toNat)
   case atStart => exact ⟨0, Nat.zero_le _, rfl, HIN2⟩
   case round =>
    clear HIN2 HKr HAr y0
    obtain ⟨k, hk, rfl, HP⟩ := hrel
    have HAr := hide (HA.out.kept HP.out (by simp))
    have hYr := (HP.out.block Y (heap_lt HY.out) (by simp)).trans HY.out
    have y0 : wr.cell? ⟨Y, 0, none⟩ = some (.int .i64 (f : Int)) := by rw [cell_of_row _ _ _ _ _ _ hYr]; rfl
    have HKr := hide (HK.out.trans HP.out (by simp))
    by_cases hlt2 : k < f
    ·have cv := HAr.out.cell (Sig.cv _ _)
     have hlb : k < s.blocks.length := by rw [HI.out.len]; omega
     have hkn : k < n := by omega
     obtain ⟨b, off, rfl, hrg⟩ := (HI.out.at_.kept HKr.out (by simp)) k hlb
     have hne := HNO.out k hlt2
     obtain ⟨e, he⟩ : ∃ e, s.blocks.getD k wk0 = e := ⟨_, rfl⟩
     obtain ⟨ws, hws⟩ : ∃ ws, bs.take Z = ws := ⟨_, rfl⟩
     rw [he] at hrg hne
     rw [hws] at hne
     obtain ⟨wd, hwd⟩ : ∃ wd, s.width = wd := ⟨_, rfl⟩
     have cw := HAr.out.cell (Sig.c0 _ _)
     rw [hwd] at hne cw
     have hwl : ws.length = Z := by rw [← hws, List.length_take, HP0.out.len]; omega
     have hsl : Sl wr po ws := by rw [← hws]; exact (HP0.out.sl.kept HKr.out (by simp)).take Z
     have hnil : po = none → ws = [] ∧ pc = 0 := fun h => by have := HP0.out.nil h; rw [← hws, this.1]; exact ⟨by simp, this.2⟩
     obtain ⟨co, hco⟩ : ∃ co, po = co := ⟨_, rfl⟩
     obtain ⟨cc, hcc⟩ : ∃ cc, pc = cc := ⟨_, rfl⟩
     have cs : wr.cell? ⟨b, off + k * 33, none⟩ = some (.int .i64 e.sum) := by have := hrg 0 _ e.su; simpa using this
     have hri := wk_range hrg
     have hile := idlen e.hid
     have heid := e.hid
     obtain ⟨sm, hsm⟩ : ∃ sm : Nat, Rol.sum ws = sm := ⟨_, rfl⟩
     have HSU := hide (fun X (hX : Kept [] wr X) => show Calls Tryz.prog 42 #[.slice po Z pc] X fun e w' => e = .returned (.int .i64 (sm : Nat)) ∧ Kept [] X w' from (refsum_n po Z pc ws X hwl (by omega) (hsl.kept hX (by simp))).mono fun e w' hh => ⟨by rw [hh.1, hsm], by rw [hh.2]; exact Kept.refl _ _⟩)
     have HOF := hide (fun X (hX : Kept [] wr X) => rof_ok wd po Z pc ws X hwl (by omega) (hsl.kept hX (by simp)) hnil)
     obtain ⟨I1, hI1⟩ : ∃ I1, Sha.ident wd ws = I1 := ⟨_, rfl⟩
     have hI1l : I1.length = 32 := by rw [← hI1]; exact Sha.ident_len _ _
     rw [hI1] at HOF
     have hnw : ¬ (e.sum = (sm : Nat) ∧ e.id = I1) := fun h => hne (weak_of.2 (by rw [hsm, hI1]; exact h))
     obtain ⟨es, hes⟩ : ∃ es, e.sum = es := ⟨_, rfl⟩
     obtain ⟨ei, hei⟩ : ∃ ei, e.id = ei := ⟨_, rfl⟩
     rw [hes] at cs hnw
     rw [hei] at hri hile hnw heid
     clear hne he hrg hes hei hI1 hlb hwd hws hwl hsl hnil hsm hYr hco hcc
     by_cases hq : es = (sm : Nat)
     ·have hid : ¬ ei = I1 := fun h => hnw ⟨hq, h⟩
      have heq : ∀ W, (Op.equalIn 10000 23 (.agg (bys ei).toArray) (.agg (bys I1).toArray)).run Tryz.prog W = .ok false W := fun W => by rw [Tryz.eqlID ei I1 heid hI1l W, decide_eq_false hid]
      have hq1 : (es == ((sm : Nat) : Int)) = true := by simpa using hq
      clear hnw hid hq
      go_upto_region 12 with (fail)
      refine wp_region_held_drew (S := fun w' => Kept [] wr w') (by kernel_rfl) ((Kept.refl [] wr).drew) (fun h0 => ?_)
      generalize World.drew wr = v0 at h0  ⊢
      refine wpAnyH_take (i := 0) (v := .pointer (some ⟨G, 35, none⟩)) rfl (by kernel_rfl) (by kernel_rfl) (by kernel_rfl) (fun _ _ _ h => h) (Or.inl ⟨by rfl, fun w hSw => by go_simp⟩) h0 ?_
      try simp only [z1, z2, z3, z4, z5, z6, z7, z8]
      refine wpAnyH_take (i := 1) (v := .slice (some ⟨b, off, none⟩) n cap) rfl (by kernel_rfl) (by kernel_rfl) (by kernel_rfl) (fun _ _ _ h => h) (Or.inl ⟨by rfl, fun w hSw => by have c0 := Kept.cellOf hSw cv (by simp); go_simp⟩) h0 ?_
      try simp only [z1, z2, z3, z4, z5, z6, z7, z8]
      refine wpAnyH_take (i := 2) (v := .int .i64 k) rfl (by kernel_rfl) (by kernel_rfl) (by kernel_rfl) (fun _ _ _ h => h) (Or.inl ⟨by rfl, fun w hSw => by go_simp⟩) h0 ?_
      try simp only [z1, z2, z3, z4, z5, z6, z7, z8]
      refine wpAnyH_take (i := 3) (v := .pointer (some ⟨b, off + k * 33, none⟩)) rfl (by kernel_rfl) (by kernel_rfl) (by kernel_rfl) (fun _ _ _ h => h) (Or.inl ⟨by rfl, fun w hSw => by go_simp⟩) h0 ?_
      try simp only [z1, z2, z3, z4, z5, z6, z7, z8]
      refine wpAnyH_take (i := 4) (v := .pointer (some ⟨b, off + k * 33, none⟩)) rfl (by kernel_rfl) (by kernel_rfl) (by kernel_rfl) (fun _ _ _ h => h) (Or.inl ⟨by rfl, fun w hSw => by go_simp⟩) h0 ?_
      try simp only [z1, z2, z3, z4, z5, z6, z7, z8]
      refine wpAnyH_take (i := 5) (v := .int .i64 es) rfl (by kernel_rfl) (by kernel_rfl) (by kernel_rfl) (fun _ _ _ h => h) (Or.inl ⟨by rfl, fun w hSw => by have c0 := Kept.cellOf hSw cs (by simp); go_simp⟩) h0 ?_
      try simp only [z1, z2, z3, z4, z5, z6, z7, z8]
      refine wpAnyH_take (i := 6) (v := .slice po Z pc) rfl (by kernel_rfl) (by kernel_rfl) (by kernel_rfl) (fun _ _ _ h => h) (Or.inl ⟨by rfl, fun w hSw => by go_simp⟩) h0 ?_
      try simp only [z1, z2, z3, z4, z5, z6, z7, z8]
      refine wpAnyH_ready (rs := [7]) (by kernel_rfl) (by simp) (AllReadyH.cons (i := 7) rfl (fun K hK => ?_) AllReadyH.nil)
      rw [if_pos (by rfl)]
      go_simp
      refine (HSU.out v0 h0).mono ?_
      rintro e v1 ⟨rfl, hk7⟩
      refine hK.out _ _ (h0.trans hk7 (by simp)) (fun h1 => ?_)
      clear hK K
      try simp only [z1, z2, z3, z4, z5, z6, z7, z8]
      clear hk7 h0
      refine wpAnyH_take (i := 8) (v := .bool true) rfl (by kernel_rfl) (by kernel_rfl) (by kernel_rfl) (fun _ _ _ h => h) (Or.inl ⟨by rfl, fun w hSw => by go_simp⟩) h1 ?_
      try simp only [z1, z2, z3, z4, z5, z6, z7, z8]
      refine wpAnyH_take (i := 9) (v := .bool true) rfl (by kernel_rfl) (by kernel_rfl) (by kernel_rfl) (fun _ _ _ h => h) (Or.inl ⟨by rfl, fun w hSw => by go_simp⟩) h1 ?_
      try simp only [z1, z2, z3, z4, z5, z6, z7, z8]
      refine wpAnyH_take (i := 10) (v := .pointer (some ⟨G, 35, none⟩)) rfl (by kernel_rfl) (by kernel_rfl) (by kernel_rfl) (fun _ _ _ h => h) (Or.inl ⟨by rfl, fun w hSw => by go_simp⟩) h1 ?_
      try simp only [z1, z2, z3, z4, z5, z6, z7, z8]
      refine wpAnyH_take (i := 11) (v := .slice (some ⟨b, off, none⟩) n cap) rfl (by kernel_rfl) (by kernel_rfl) (by kernel_rfl) (fun _ _ _ h => h) (Or.inl ⟨by rfl, fun w hSw => by have c0 := Kept.cellOf hSw cv (by simp); go_simp⟩) h1 ?_
      try simp only [z1, z2, z3, z4, z5, z6, z7, z8]
      refine wpAnyH_take (i := 12) (v := .int .i64 k) rfl (by kernel_rfl) (by kernel_rfl) (by kernel_rfl) (fun _ _ _ h => h) (Or.inl ⟨by rfl, fun w hSw => by go_simp⟩) h1 ?_
      try simp only [z1, z2, z3, z4, z5, z6, z7, z8]
      refine wpAnyH_take (i := 13) (v := .pointer (some ⟨b, off + k * 33, none⟩)) rfl (by kernel_rfl) (by kernel_rfl) (by kernel_rfl) (fun _ _ _ h => h) (Or.inl ⟨by rfl, fun w hSw => by go_simp⟩) h1 ?_
      try simp only [z1, z2, z3, z4, z5, z6, z7, z8]
      refine wpAnyH_take (i := 14) (v := .pointer (some ⟨b, off + k * 33 + 1, none⟩)) rfl (by kernel_rfl) (by kernel_rfl) (by kernel_rfl) (fun _ _ _ h => h) (Or.inl ⟨by rfl, fun w hSw => by go_simp⟩) h1 ?_
      try simp only [z1, z2, z3, z4, z5, z6, z7, z8]
      refine wpAnyH_take (i := 15) (v := .agg (bys ei).toArray) rfl (by kernel_rfl) (by kernel_rfl) (by kernel_rfl) (fun _ _ _ h => h) (yieldsIf_load_mid (by rfl) _ _ rfl b (off + k * 33 + 1) rfl (bys ei) _ (fun W h => fun j u hu => Kept.cellOf h (hri j u hu) (by simp)) Tryz.underlying23 rfl hile) h1 ?_
      try simp only [z1, z2, z3, z4, z5, z6, z7, z8]
      refine wpAnyH_take (i := 16) (v := .pointer (some ⟨G, 0, none⟩)) rfl (by kernel_rfl) (by kernel_rfl) (by kernel_rfl) (fun _ _ _ h => h) (Or.inl ⟨by rfl, fun w hSw => by go_simp⟩) h1 ?_
      try simp only [z1, z2, z3, z4, z5, z6, z7, z8]
      refine wpAnyH_take (i := 17) (v := .int .i64 wd) rfl (by kernel_rfl) (by kernel_rfl) (by kernel_rfl) (fun _ _ _ h => h) (Or.inl ⟨by rfl, fun w hSw => by have c0 := Kept.cellOf hSw cw (by simp); go_simp⟩) h1 ?_
      try simp only [z1, z2, z3, z4, z5, z6, z7, z8]
      refine wpAnyH_take (i := 18) (v := .slice po Z pc) rfl (by kernel_rfl) (by kernel_rfl) (by kernel_rfl) (fun _ _ _ h => h) (Or.inl ⟨by rfl, fun w hSw => by go_simp⟩) h1 ?_
      try simp only [z1, z2, z3, z4, z5, z6, z7, z8]
      refine wpAnyH_ready (rs := [19]) (by kernel_rfl) (by simp) (AllReadyH.cons (i := 19) rfl (fun K hK => ?_) AllReadyH.nil)
      rw [if_pos (by rfl)]
      go_simp
      refine (HOF.out v1 h1).mono ?_
      rintro e v2 ⟨rfl, hk19⟩
      refine hK.out _ _ (h1.trans hk19 (by simp)) (fun h2 => ?_)
      clear hK K
      try simp only [z1, z2, z3, z4, z5, z6, z7, z8]
      clear hk19 h1
      refine wpAnyH_take (i := 20) (v := .bool false) rfl (by kernel_rfl) (by kernel_rfl) (by kernel_rfl) (fun _ _ _ h => h) (Or.inl ⟨by rfl, fun w hSw => by go_simp⟩) h2 ?_
      try simp only [z1, z2, z3, z4, z5, z6, z7, z8]
      refine wpAnyH_take (i := 21) (v := .bool false) rfl (by kernel_rfl) (by kernel_rfl) (by kernel_rfl) (fun _ _ _ h => h) (Or.inl ⟨by rfl, fun w hSw => by go_simp⟩) h2 ?_
      try simp only [z1, z2, z3, z4, z5, z6, z7, z8]
      refine wpAnyH_done (by kernel_rfl) ?_ _
      have HPF := hide (HP.out.trans h2 (by simp))
      clear h2 HP HOF HSU heq hri cs cw cv hile y0 HAr HKr
      go_wp2
      go_roundw
      case rel => exact ⟨k + 1, by omega, by go_num, HPF⟩
      case measure => simp [intOf]; omega
     ·have hq1 : (es == ((sm : Nat) : Int)) = false := by simpa using hq
      clear hnw hq
      go_upto_region 12 with (fail)
      refine wp_region_held_drew (S := fun w' => Kept [] wr w') (by kernel_rfl) ((Kept.refl [] wr).drew) (fun h0 => ?_)
      generalize World.drew wr = v0 at h0  ⊢
      refine wpAnyH_take (i := 0) (v := .pointer (some ⟨G, 35, none⟩)) rfl (by kernel_rfl) (by kernel_rfl) (by kernel_rfl) (fun _ _ _ h => h) (Or.inl ⟨by rfl, fun w hSw => by go_simp⟩) h0 ?_
      try simp only [z1, z2, z3, z4, z5, z6, z7, z8]
      refine wpAnyH_take (i := 1) (v := .slice (some ⟨b, off, none⟩) n cap) rfl (by kernel_rfl) (by kernel_rfl) (by kernel_rfl) (fun _ _ _ h => h) (Or.inl ⟨by rfl, fun w hSw => by have c0 := Kept.cellOf hSw cv (by simp); go_simp⟩) h0 ?_
      try simp only [z1, z2, z3, z4, z5, z6, z7, z8]
      refine wpAnyH_take (i := 2) (v := .int .i64 k) rfl (by kernel_rfl) (by kernel_rfl) (by kernel_rfl) (fun _ _ _ h => h) (Or.inl ⟨by rfl, fun w hSw => by go_simp⟩) h0 ?_
      try simp only [z1, z2, z3, z4, z5, z6, z7, z8]
      refine wpAnyH_take (i := 3) (v := .pointer (some ⟨b, off + k * 33, none⟩)) rfl (by kernel_rfl) (by kernel_rfl) (by kernel_rfl) (fun _ _ _ h => h) (Or.inl ⟨by rfl, fun w hSw => by go_simp⟩) h0 ?_
      try simp only [z1, z2, z3, z4, z5, z6, z7, z8]
      refine wpAnyH_take (i := 4) (v := .pointer (some ⟨b, off + k * 33, none⟩)) rfl (by kernel_rfl) (by kernel_rfl) (by kernel_rfl) (fun _ _ _ h => h) (Or.inl ⟨by rfl, fun w hSw => by go_simp⟩) h0 ?_
      try simp only [z1, z2, z3, z4, z5, z6, z7, z8]
      refine wpAnyH_take (i := 5) (v := .int .i64 es) rfl (by kernel_rfl) (by kernel_rfl) (by kernel_rfl) (fun _ _ _ h => h) (Or.inl ⟨by rfl, fun w hSw => by have c0 := Kept.cellOf hSw cs (by simp); go_simp⟩) h0 ?_
      try simp only [z1, z2, z3, z4, z5, z6, z7, z8]
      refine wpAnyH_take (i := 6) (v := .slice po Z pc) rfl (by kernel_rfl) (by kernel_rfl) (by kernel_rfl) (fun _ _ _ h => h) (Or.inl ⟨by rfl, fun w hSw => by go_simp⟩) h0 ?_
      try simp only [z1, z2, z3, z4, z5, z6, z7, z8]
      refine wpAnyH_ready (rs := [7]) (by kernel_rfl) (by simp) (AllReadyH.cons (i := 7) rfl (fun K hK => ?_) AllReadyH.nil)
      rw [if_pos (by rfl)]
      go_simp
      refine (HSU.out v0 h0).mono ?_
      rintro e v1 ⟨rfl, hk7⟩
      refine hK.out _ _ (h0.trans hk7 (by simp)) (fun h1 => ?_)
      clear hK K
      try simp only [z1, z2, z3, z4, z5, z6, z7, z8]
      clear hk7 h0
      refine wpAnyH_take (i := 8) (v := .bool false) rfl (by kernel_rfl) (by kernel_rfl) (by kernel_rfl) (fun _ _ _ h => h) (Or.inl ⟨by rfl, fun w hSw => by go_simp⟩) h1 ?_
      try simp only [z1, z2, z3, z4, z5, z6, z7, z8]
      refine wpAnyH_take (i := 9) (v := .bool false) rfl (by kernel_rfl) (by kernel_rfl) (by kernel_rfl) (fun _ _ _ h => h) (Or.inl ⟨by rfl, fun w hSw => by go_simp⟩) h1 ?_
      try simp only [z1, z2, z3, z4, z5, z6, z7, z8]
      refine wpAnyH_take (i := 10) (v := undef) rfl (by kernel_rfl) (by kernel_rfl) (by kernel_rfl) (fun _ _ _ h => h) (Or.inr ⟨by kernel_rfl, rfl⟩) h1 ?_
      try simp only [z1, z2, z3, z4, z5, z6, z7, z8]
      refine wpAnyH_take (i := 11) (v := undef) rfl (by kernel_rfl) (by kernel_rfl) (by kernel_rfl) (fun _ _ _ h => h) (Or.inr ⟨by kernel_rfl, rfl⟩) h1 ?_
      try simp only [z1, z2, z3, z4, z5, z6, z7, z8]
      refine wpAnyH_take (i := 12) (v := undef) rfl (by kernel_rfl) (by kernel_rfl) (by kernel_rfl) (fun _ _ _ h => h) (Or.inr ⟨by kernel_rfl, rfl⟩) h1 ?_
      try simp only [z1, z2, z3, z4, z5, z6, z7, z8]
      refine wpAnyH_take (i := 13) (v := undef) rfl (by kernel_rfl) (by kernel_rfl) (by kernel_rfl) (fun _ _ _ h => h) (Or.inr ⟨by kernel_rfl, rfl⟩) h1 ?_
      try simp only [z1, z2, z3, z4, z5, z6, z7, z8]
      refine wpAnyH_take (i := 14) (v := undef) rfl (by kernel_rfl) (by kernel_rfl) (by kernel_rfl) (fun _ _ _ h => h) (Or.inr ⟨by kernel_rfl, rfl⟩) h1 ?_
      try simp only [z1, z2, z3, z4, z5, z6, z7, z8]
      refine wpAnyH_take (i := 15) (v := undef) rfl (by kernel_rfl) (by kernel_rfl) (by kernel_rfl) (fun _ _ _ h => h) (Or.inr ⟨by kernel_rfl, rfl⟩) h1 ?_
      try simp only [z1, z2, z3, z4, z5, z6, z7, z8]
      refine wpAnyH_take (i := 16) (v := undef) rfl (by kernel_rfl) (by kernel_rfl) (by kernel_rfl) (fun _ _ _ h => h) (Or.inr ⟨by kernel_rfl, rfl⟩) h1 ?_
      try simp only [z1, z2, z3, z4, z5, z6, z7, z8]
      refine wpAnyH_take (i := 17) (v := undef) rfl (by kernel_rfl) (by kernel_rfl) (by kernel_rfl) (fun _ _ _ h => h) (Or.inr ⟨by kernel_rfl, rfl⟩) h1 ?_
      try simp only [z1, z2, z3, z4, z5, z6, z7, z8]
      refine wpAnyH_take (i := 18) (v := undef) rfl (by kernel_rfl) (by kernel_rfl) (by kernel_rfl) (fun _ _ _ h => h) (Or.inr ⟨by kernel_rfl, rfl⟩) h1 ?_
      try simp only [z1, z2, z3, z4, z5, z6, z7, z8]
      refine wpAnyH_take (i := 19) (v := undef) rfl (by kernel_rfl) (by kernel_rfl) (by kernel_rfl) (fun _ _ _ h => h) (Or.inr ⟨by kernel_rfl, rfl⟩) h1 ?_
      try simp only [z1, z2, z3, z4, z5, z6, z7, z8]
      refine wpAnyH_take (i := 20) (v := undef) rfl (by kernel_rfl) (by kernel_rfl) (by kernel_rfl) (fun _ _ _ h => h) (Or.inr ⟨by kernel_rfl, rfl⟩) h1 ?_
      try simp only [z1, z2, z3, z4, z5, z6, z7, z8]
      refine wpAnyH_take (i := 21) (v := .bool false) rfl (by kernel_rfl) (by kernel_rfl) (by kernel_rfl) (fun _ _ _ h => h) (Or.inl ⟨by rfl, fun w hSw => by go_simp⟩) h1 ?_
      try simp only [z1, z2, z3, z4, z5, z6, z7, z8]
      refine wpAnyH_done (by kernel_rfl) ?_ _
      have HPF := hide (HP.out.trans h1 (by simp))
      clear h1 HP HOF HSU hri cs cw cv hile y0 HAr HKr
      go_wp2
      go_roundw
      case rel => exact ⟨k + 1, by omega, by go_num, HPF⟩
      case measure => simp [intOf]; omega
    ·obtain rfl : k = f := by omega
     clear hYr HP
     go_wp2
     go_ret
     exact ⟨rfl, HKr.out⟩
end Go.Proofs.YtmklodligplbaabGreat
