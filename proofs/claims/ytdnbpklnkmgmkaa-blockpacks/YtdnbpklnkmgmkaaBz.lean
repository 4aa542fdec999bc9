/-
  The walk: freightlaw11.BlockPacks. (Written by tools/bz.py.)
-/
import Derived.Test.YtdnbpklnkmgmkaaBw
import Derived.Test.YtdnbpklnkmgmkaaBq
import Derived.Test.YtdnbpklnkmgmkaaBj
import Derived.Test.YtdnbpklnkmgmkaaBy
namespace Go.Proofs.Ytdnbpklnkmgmkaa
open Go.RowKit
set_option linter.unusedVariables false
set_option linter.unusedSimpArgs false

theorem Kept.trans' {l : List Nat} {a b c : World} (h : Kept [] a b) (h2 : Kept l b c) : Kept l a c := (h.mono (by simp)).trans h2 (fun i hi _ => hi)
theorem laid_sl {w : World} {D g m : Nat} {ds : List UInt8} (h : Dk w D (some g) (laid ds m)) : Sl w (some ⟨g, 0, none⟩) ds := Sl.of fun i hi => by
  rw [Nat.zero_add, cell_of_row _ _ _ _ _ _ (h.row g rfl).2, List.getElem?_toArray, bys_at (by simp [laid]; omega)]
  simp [laid, List.getElem?_append_left hi]
theorem Blk.pack_small (xs : List UInt8) (s : Int) (O : List UInt8) (K : List Bk) (k : Nat) (h : Blk.pack xs s = (O, K, k)) : O.length ≤ 200000 ∧ K.length ≤ 200000 := by
  unfold Blk.pack at h
  split at h
  · cases h; exact ⟨by simp, by simp⟩
  · split at h
    · cases h; exact ⟨by simp, by simp⟩
    · cases h
      have h1 := Blk.outs_len xs s.toNat (Blk.cnt xs.length s.toNat)
      have h2 : Blk.cnt xs.length s.toNat ≤ xs.length + s.toNat - 1 := Nat.div_le_self _ _
      rw [Blk.blks_len]
      omega
theorem own_blkK {w : World} {base : Nat} {bo : Option Addr} {n bc : Nat} {xs : List Bk} (h : OwnK w base (.slice bo n bc) xs) : Blks w bo xs ∧ ∀ a, bo = some a → base ≤ a.block ∧ a.block < w.heap.size := by
  obtain ⟨ao, cap, e, h1, h2, h3, _⟩ := h.shape
  cases e
  exact ⟨h2, fun a ha => by obtain ⟨g, rfl, hb, hl, _⟩ := h3 a ha; exact ⟨hb, hl⟩⟩
theorem Try.zeroDesk11 (W : World) : (zeroValue 28).run Try.prog W = .ok (.agg #[.slice none 0 0]) W := by kernel_rfl
theorem Try.infoAsk : (Try.prog.info? 25).map (·.size) = some 2 := by kernel_rfl
theorem ask_all (x : Option Addr) (y z : Nat) (a : Int) : (#[.slice x y z, .int .i64 a] : Array Value).all (·.oneCell') = true := by kernel_rfl
theorem own_blk {w : World} {base : Nat} {bo : Option Addr} {n bc : Nat} {xs : List UInt8} (h : OwnB w base (.slice bo n bc) xs) : Sl w bo xs ∧ ∀ a, bo = some a → base ≤ a.block ∧ a.block < w.heap.size := by
  obtain ⟨ao, cap, e, h1, h2, h3, _⟩ := h.shape
  cases e
  exact ⟨h2, fun a ha => by obtain ⟨g, rfl, hb, hl, _⟩ := h3 a ha; exact ⟨hb, hl⟩⟩
/-- What holds ahead of a question. -/
structure Fr (w wr : World) (D : Nat) (bo : Option Nat) (R : List UInt8) : Prop where
  dk : Dk wr D bo R
  geD : w.heap.size ≤ D
  geg : ∀ g, bo = some g → w.heap.size ≤ g
  below : Below w.heap.size w wr
theorem Fr.next {w wr wr2 : World} {D : Nat} {bo : Option Nat} {R : List UInt8} (h : Fr w wr D bo R) {g : Nat} {R2 : List UInt8} (hd : Dk wr2 D (some g) R2) (hk : Kept (dkfp D bo) wr wr2) (hg : bo = some g ∨ wr.heap.size ≤ g) : Fr w wr2 D (some g) R2 := by
  refine ⟨hd, h.geD, fun g' e => ?_, h.below.trans (hk.below h.below.size (fun i hi => ?_))⟩
  · cases e
    rcases hg with hg | hg
    · exact h.geg _ hg
    · have := h.below.size
      omega
  · simp only [dkfp, List.mem_cons, Option.mem_toList] at hi
    rcases hi with rfl | hi
    · exact h.geD
    · exact h.geg _ hi
theorem Fr.kept {w wr wr2 : World} {D : Nat} {bo : Option Nat} {R : List UInt8} (h : Fr w wr D bo R) (hk : Kept [] wr wr2) : Fr w wr2 D bo R :=
  ⟨h.dk.kept hk (by simp) (by simp), h.geD, h.geg, h.below.trans (hk.below h.below.size (by simp))⟩
theorem Fr.far {w wr : World} {D : Nat} {bo : Option Nat} {R : List UInt8} (h : Fr w wr D bo R) {x : Nat} (hx : x < w.heap.size ∨ wr.heap.size ≤ x) : x ∉ dkfp D bo := by
  have h1 := h.geD
  have h2 := h.dk.lt
  simp only [dkfp, List.mem_cons, Option.mem_toList, not_or]
  refine ⟨by omega, fun hm => ?_⟩
  have h3 := h.geg _ hm
  have h4 := h.dk.ltg _ hm
  omega

set_option maxHeartbeats 8000000 in
set_option maxRecDepth 100000 in
theorem packs_some (b off n cap : Nat) (L : List Qm) (w : World) (hn : L.length = n) (hm : n ≤ 9223372036854775807) (hc : ∀ i, i < L.length → (∀ j v, (L.getD i qm0).cells[j]? = some v → w.cell? ⟨b, off + i * 2 + j, none⟩ = some v) ∧ QmIn w (L.getD i qm0)) (hbw : b < w.heap.size) :
    Calls Try.prog 3 #[.slice (some ⟨b, off, none⟩) n cap] w fun e w' => e = .returned (.bool true) ∧ Below w.heap.size w w' := by
  have HN := hide hn
  have HC := hide hc
  have HBW := hide hbw
  have hzv := Try.zeroDesk11
  clear hn hc hbw
  go_enter Try.func3, Try.ntmps3
  go_wp2
  go_loop [3, 4] (fun x y => ∃ k v : Nat, k ≤ n ∧ y = .int .i64 k ∧ x = .int .i64 v ∧ v ≤ 200000 ∧ k ≤ v ∧ Hid (∀ i, i < k → (L.getD i qm0).dn ≤ 70000)) (fun x y => n - (intOf y).toNat)
  case atStart => exact ⟨0, 0, Nat.zero_le _, rfl, rfl, by omega, by omega, fun i hi => by omega⟩
  case round =>
    obtain ⟨k, v, hk, rfl, rfl, hv, hkv, HV⟩ := hrel
    by_cases hlt : k < n
    · have hcl := HC.out k (by rw [HN.out]; exact hlt)
      have hc3 := hcl.1 0 _ rfl
      rw [Nat.add_zero] at hc3
      have hdm := hcl.2.inb.max
      have hdc := hcl.2.inb.le
      obtain ⟨dn, hdn⟩ : ∃ dn, (L.getD k qm0).dn = dn := ⟨_, rfl⟩
      have HDN : Hid ((L.getD k qm0).dn = dn) := hdn
      rw [hdn] at hc3 hdc
      generalize (L.getD k qm0).da = da at hc3
      generalize (L.getD k qm0).dc = dc at hc3 hdm hdc
      clear hcl hdn
      have hltI : (k : Int) < (n : Int) := by omega
      by_cases hbig7 : 200000 ≥ v + dn + 1 ∧ 70000 < dn
      · as_aux_lemma =>
        have hb1 : ¬ (200000 : Int) < (v : Int) + (dn : Int) + 1 := by omega
        have hb1d : decide ((200000 : Int) < (v : Int) + (dn : Int) + 1) = false := by simp; omega
        have hb2 : IntKind.i64.wrap (IntKind.i64.wrap ((v : Int) + (dn : Int)) + 1) = (v : Int) + (dn : Int) + 1 := by rw [IntKind.wrap_i64, IntKind.wrap_i64]; omega
        have hb3 : (70000 : Int) < (dn : Int) := by omega
        clear hbig7
        go_wp2
        go_ret
        exact ⟨rfl, Below.refl _ _⟩
      by_cases hbig : 200000 < v + dn + 1
      · as_aux_lemma =>
        have hb1 : (200000 : Int) < (v : Int) + (dn : Int) + 1 := by omega
        have hb2 : IntKind.i64.wrap (IntKind.i64.wrap ((v : Int) + (dn : Int)) + 1) = (v : Int) + (dn : Int) + 1 := by rw [IntKind.wrap_i64, IntKind.wrap_i64]; omega
        go_wp2
        go_ret
        exact ⟨rfl, Below.refl _ _⟩
      · as_aux_lemma =>
        have HV2 : Hid (∀ i, i < k + 1 → (L.getD i qm0).dn ≤ 70000) := fun i hi => by
          by_cases h : i < k
          · exact HV.out i h
          · obtain rfl : i = k := by omega
            rw [HDN.out]; omega
        have hb1 : ¬ (200000 : Int) < (v : Int) + (dn : Int) + 1 := by omega
        have hb1d : decide ((200000 : Int) < (v : Int) + (dn : Int) + 1) = false := by simp; omega
        have hb1n : decide (200000 < v + dn + 1) = false := by simp; omega
        have hb3 : ¬ (70000 : Int) < (dn : Int) := by omega
        have hb3d : decide ((70000 : Int) < (dn : Int)) = false := by simp; omega
        have hb3n : decide (70000 < dn) = false := by simp; omega
        have hb2 : IntKind.i64.wrap (IntKind.i64.wrap ((v : Int) + (dn : Int)) + 1) = (v : Int) + (dn : Int) + 1 := by rw [IntKind.wrap_i64, IntKind.wrap_i64]; omega
        go_wp2
        go_round
        case rel => exact ⟨k + 1, v + dn + 1, by omega, by go_num, by go_num, by omega, by omega, HV2⟩
        case measure => simp [intOf]; omega
    · obtain rfl : k = n := by omega
      have hkn : k ≤ 200000 := by omega
      have HI : Hid (Fr w (w.alloc (.cells #[.slice none 0 0] 28)) w.heap.size none []) :=
        ⟨⟨by simp, by simp, fun _ => rfl, by simp, by simp⟩, Nat.le_refl _, by simp, (Below.refl _ _).alloc (Nat.le_refl _) _⟩
      go_wp2
      obtain ⟨D, hD⟩ : ∃ D, D = w.heap.size := ⟨_, rfl⟩
      rw [← hD] at HI ⊢
      clear hzv hD hv hkv
      go_loopw [6] (fun x wr => ∃ (j : Nat) (bo : Option Nat) (R : List UInt8), j ≤ 2 * k ∧ x = .int .i64 j ∧ Hid (Fr w wr D bo R)) (fun x wr => 2 * k - (intOf x).toNat)
      case atStart => exact ⟨0, none, [], Nat.zero_le _, rfl, HI⟩
      case round =>
        clear HI
        obtain ⟨j, bo, R, hj, rfl, HR⟩ := hrel
        by_cases hjl : j < 2 * k
        · as_aux_lemma =>
          have HTN := hide (fun W => turn_ok j k W hkn hjl)
          have hj2 : (j : Int) < 2 * (k : Int) := by omega
          have w2k : IntKind.i64.wrap (2 * (k : Int)) = 2 * (k : Int) := by rw [IntKind.wrap_i64]; omega
          go_wp2_with (fail)
          refine (HTN.out _).mono ?_
          rintro e w' ⟨⟨t, ht, rfl⟩, hw⟩
          obtain rfl := hw.symm
          clear hj2 w2k HTN
          have hcl := HC.out t (by rw [HN.out]; exact ht)
          have hrg0 := hcl.1
          have HIN : Hid (InB w (L.getD t qm0).da (L.getD t qm0).dn (L.getD t qm0).dc (L.getD t qm0).ds) := hcl.2.inb
          have hd2 := HV.out t ht
          unfold Qm.cells at hrg0
          generalize (L.getD t qm0).da = da at hrg0 HIN
          generalize (L.getD t qm0).dn = dn at hrg0 HIN hd2
          generalize (L.getD t qm0).dc = dc at hrg0 HIN
          generalize (L.getD t qm0).ds = ds at HIN
          generalize (L.getD t qm0).size = sz at hrg0
          clear hcl
          obtain ⟨Rr, Kr, kk, hrr⟩ : ∃ Rr Kr kk, Blk.pack ds sz = (Rr, Kr, kk) := ⟨_, _, _, rfl⟩
          have HRR := hide hrr
          have HSM := hide (Blk.pack_small ds sz Rr Kr kk hrr)
          obtain ⟨rl, hrl⟩ : ∃ rl, Rr.length = rl := ⟨_, rfl⟩
          have HRL := hide hrl
          obtain ⟨kl, hkl⟩ : ∃ kl, Kr.length = kl := ⟨_, rfl⟩
          have HKL := hide hkl
          rw [hrl, hkl] at HSM
          clear hrr hrl hkl
          have hrg1 : wr.rangeAt b (off + t * 2) [.slice da dn dc, .int .i64 sz] := fun j v hv => by rw [HR.out.below.cell (p := ⟨b, off + t * 2 + j, none⟩) HBW.out]; exact hrg0 j v hv
          clear hrg0
          have htk : (t : Int) < (k : Int) := by omega
          go_upto_region 13 with (first
            | refine wpList_load_mid rfl 25 (.tmp 54) rfl b (off + t * 2) rfl [.slice da dn dc, .int .i64 sz] _ hrg1 Try.underlying25 rfl Try.infoAsk ?_
            | refine wpList_store_rowTo rfl 25 (.tmp 7) (.tmp 55) rfl rfl wr.heap.size #[.slice da dn dc, .int .i64 sz] rfl rfl 25 #[.slice none 0 0, .int .i64 0] (heap_new _ _) Try.infoAsk rfl (ask_all _ _ _ _) ?_)
          have hk12 : Kept [] wr ((wr.alloc (.cells #[.slice none 0 0, .int .i64 0] 25)).setRow wr.heap.size #[.slice da dn dc, .int .i64 sz]) := kept_setRow ((Kept.refl [] wr).alloc _) (by intro h; omega) _
          have hrX : ((wr.alloc (.cells #[.slice none 0 0, .int .i64 0] 25)).setRow wr.heap.size #[.slice da dn dc, .int .i64 sz]).heap[wr.heap.size]? = some (.cells #[.slice da dn dc, .int .i64 sz] 25 (0, 0)) := setRow_heap _ _ _ _ _ _ (heap_new _ _)
          generalize (wr.alloc (.cells #[.slice none 0 0, .int .i64 0] 25)).setRow wr.heap.size #[.slice da dn dc, .int .i64 sz] = W12 at hk12 hrX ⊢
          have HXN : Hid (wr.heap.size ∉ dkfp D bo) := HR.out.far (.inr (Nat.le_refl _))
          have HGX : Hid (wr.heap.size < W12.heap.size) := (Array.getElem?_eq_some_iff.1 hrX).1
          have HR12 := hide (HR.out.kept hk12)
          obtain ⟨gX, hgX⟩ : ∃ gX, wr.heap.size = gX := ⟨_, rfl⟩
          have HSZ := hide hgX
          rw [hgX] at HXN HGX hrX ⊢
          have e0 : W12.cell? ⟨gX, 0, none⟩ = some (.slice da dn dc) := by rw [cell_of_row _ _ _ _ _ _ hrX]; rfl
          have e1 : W12.cell? ⟨gX, 1, none⟩ = some (.int .i64 sz) := by rw [cell_of_row _ _ _ _ _ _ hrX]; rfl
          have HS12 : Hid (Sl W12 da ds) := HIN.out.sl.kept (Kept.of_below HR12.out.below) (by simp)
          have HRF := hide (refbpack_any da dn dc sz ds W12 HIN.out.len HIN.out.le HS12.out)
          rw [HRR.out] at HRF
          unfold PkAns at HRF
          simp only [HRL.out, HKL.out] at HRF
          clear hk12 hrX hgX hrg1 HS12
          go_upto_region 14 with (go_at_call 9; refine HRF.out.mono ?_; rintro e w13 ⟨b5, c5, k5, l5, rfl, ho5, hp5, hb5⟩; have HO5 := hide ho5; have HP5 := hide hp5; have HB5 := hide hb5; clear ho5 hp5 hb5 HRF)
          have HR13 := hide (HR12.out.kept (Kept.of_below HB5.out))
          have d0 := (Kept.of_below HB5.out).cellOf e0 (by simp)
          have d1 := (Kept.of_below HB5.out).cellOf e1 (by simp)
          have HW5 := hide (own_blk HO5.out)
          have HV5 := hide (own_blkK HP5.out)
          have HLAY : Hid (∀ W, Kept [] w13 W → Calls Try.prog 11 #[.pointer (some ⟨D, 0, none⟩), .slice da dn dc] W fun e w' => ∃ g m, e = .returned (.slice (some ⟨g, 0, none⟩) dn m) ∧ Dk w' D (some g) (laid ds m) ∧ dn + 5 ≤ m ∧ Kept (dkfp D bo) W w' ∧ (bo = some g ∨ W.heap.size ≤ g)) := fun W hW =>
            lay_any D bo da dn dc ds R W (HR13.out.dk.kept hW (by simp) (by simp)) HIN.out.len ((HIN.out.sl.kept (Kept.of_below HR13.out.below) (by simp)).kept hW (by simp)) (fun hne a ha => by
              obtain ⟨b', off', e', hb', _⟩ := HIN.out.sl.open hne
              rw [e'] at ha
              cases ha
              exact HR13.out.far (.inl hb')) (by omega)
          clear e0 e1 HO5 HP5
          refine wp_region_held_drew (S := fun w' => Kept (dkfp D bo) w13 w') (by kernel_rfl) ((Kept.refl _ w13).drew) (fun h0 => ?_)
          have k0 : Kept [] w13 (World.drew w13) := (Kept.refl [] w13).drew
          generalize World.drew w13 = v0 at h0 k0 ⊢
          refine wpAnyH_take (i := 0) (v := .pointer (some ⟨D, 0, none⟩)) rfl (by kernel_rfl) (by kernel_rfl) (by kernel_rfl) (fun _ _ _ h => h) (Or.inl ⟨by rfl, fun w hSw => by go_simp⟩) h0 ?_
          try simp only [List.getElem_toArray, List.getElem_cons_zero, List.getElem_cons_succ, Act.put, List.setIfInBounds_toArray, List.set_cons_zero, List.set_cons_succ]
          refine wpAnyH_take (i := 1) (v := .pointer (some ⟨gX, 0, none⟩)) rfl (by kernel_rfl) (by kernel_rfl) (by kernel_rfl) (fun _ _ _ h => h) (Or.inl ⟨by rfl, fun w hSw => by go_simp⟩) h0 ?_
          try simp only [List.getElem_toArray, List.getElem_cons_zero, List.getElem_cons_succ, Act.put, List.setIfInBounds_toArray, List.set_cons_zero, List.set_cons_succ]
          refine wpAnyH_take (i := 2) (v := .slice da dn dc) rfl (by kernel_rfl) (by kernel_rfl) (by kernel_rfl) (fun _ _ _ h => h) (Or.inl ⟨by rfl, fun w hSw => by have c := Kept.cellOf hSw d0 HXN.out; go_simp⟩) h0 ?_
          try simp only [List.getElem_toArray, List.getElem_cons_zero, List.getElem_cons_succ, Act.put, List.setIfInBounds_toArray, List.set_cons_zero, List.set_cons_succ]
          refine wpAnyH_take (i := 4) (v := .pointer (some ⟨gX, 1, none⟩)) rfl (by kernel_rfl) (by kernel_rfl) (by kernel_rfl) (fun _ _ _ h => h) (Or.inl ⟨by rfl, fun w hSw => by go_simp⟩) h0 ?_
          try simp only [List.getElem_toArray, List.getElem_cons_zero, List.getElem_cons_succ, Act.put, List.setIfInBounds_toArray, List.set_cons_zero, List.set_cons_succ]
          refine wpAnyH_take (i := 5) (v := .int .i64 sz) rfl (by kernel_rfl) (by kernel_rfl) (by kernel_rfl) (fun _ _ _ h => h) (Or.inl ⟨by rfl, fun w hSw => by have c := Kept.cellOf hSw d1 HXN.out; go_simp⟩) h0 ?_
          try simp only [List.getElem_toArray, List.getElem_cons_zero, List.getElem_cons_succ, Act.put, List.setIfInBounds_toArray, List.set_cons_zero, List.set_cons_succ]
          refine wpAnyH_ready (rs := [3]) (by kernel_rfl) (by simp) (AllReadyH.cons (i := 3) rfl (fun K hK => ?_) AllReadyH.nil)
          rw [if_pos (by rfl)]
          go_simp
          refine (HLAY.out _ k0).mono ?_
          rintro e wa ⟨g, m, rfl, hdk, hm5, hka, hga⟩
          have HDA := hide hdk
          have HGA := hide hga
          have HKA := hide (k0.trans' hka)
          refine hK.out _ _ (h0.trans hka (fun i hi _ => hi)) (fun h1 => ?_)
          clear hK K h0 hdk hga hka HLAY
          try simp only [List.getElem_toArray, List.getElem_cons_zero, List.getElem_cons_succ, Act.put, List.setIfInBounds_toArray, List.set_cons_zero, List.set_cons_succ]
          have HOPN := hide (bpack_any (some ⟨g, 0, none⟩) dn m sz ds wa HIN.out.len (by omega) (laid_sl HDA.out))
          rw [HRR.out] at HOPN
          unfold PkAns at HOPN
          simp only [HRL.out, HKL.out] at HOPN
          refine wpAnyH_ready (rs := [6]) (by kernel_rfl) (by simp) (AllReadyH.cons (i := 6) rfl (fun K hK => ?_) AllReadyH.nil)
          rw [if_pos (by rfl)]
          go_simp
          refine HOPN.out.mono ?_
          rintro e w14 ⟨b6, c6, k6, l6, rfl, ho6, hp6, hb6⟩
          have HO6 := hide ho6
          have HP6 := hide hp6
          have HB6 := hide hb6
          refine hK.out _ _ (h1.trans (Kept.of_below hb6) (by simp)) (fun h2 => ?_)
          clear hK K ho6 hp6 hb6 h1 HOPN
          try simp only [List.getElem_toArray, List.getElem_cons_zero, List.getElem_cons_succ, Act.put, List.setIfInBounds_toArray, List.set_cons_zero, List.set_cons_succ]
          refine wpAnyH_take (i := 7) (v := .tuple #[.slice b6 rl c6, .slice k6 kl l6, .int .i64 kk]) rfl (by kernel_rfl) (by kernel_rfl) (by kernel_rfl) (fun _ _ _ h => h) (Or.inl ⟨by rfl, fun w hSw => by go_simp⟩) h2 ?_
          try simp only [List.getElem_toArray, List.getElem_cons_zero, List.getElem_cons_succ, Act.put, List.setIfInBounds_toArray, List.set_cons_zero, List.set_cons_succ]
          refine wpAnyH_take (i := 8) (v := .slice b6 rl c6) rfl (by kernel_rfl) (by kernel_rfl) (by kernel_rfl) (fun _ _ _ h => h) (Or.inl ⟨by rfl, fun w hSw => by go_simp⟩) h2 ?_
          try simp only [List.getElem_toArray, List.getElem_cons_zero, List.getElem_cons_succ, Act.put, List.setIfInBounds_toArray, List.set_cons_zero, List.set_cons_succ]
          refine wpAnyH_take (i := 9) (v := .slice k6 kl l6) rfl (by kernel_rfl) (by kernel_rfl) (by kernel_rfl) (fun _ _ _ h => h) (Or.inl ⟨by rfl, fun w hSw => by go_simp⟩) h2 ?_
          try simp only [List.getElem_toArray, List.getElem_cons_zero, List.getElem_cons_succ, Act.put, List.setIfInBounds_toArray, List.set_cons_zero, List.set_cons_succ]
          refine wpAnyH_take (i := 10) (v := .int .i64 kk) rfl (by kernel_rfl) (by kernel_rfl) (by kernel_rfl) (fun _ _ _ h => h) (Or.inl ⟨by rfl, fun w hSw => by go_simp⟩) h2 ?_
          try simp only [List.getElem_toArray, List.getElem_cons_zero, List.getElem_cons_succ, Act.put, List.setIfInBounds_toArray, List.set_cons_zero, List.set_cons_succ]
          refine wpAnyH_take (i := 11) (v := .slice b6 rl c6) rfl (by kernel_rfl) (by kernel_rfl) (by kernel_rfl) (fun _ _ _ h => h) (Or.inl ⟨by rfl, fun w hSw => by go_simp⟩) h2 ?_
          try simp only [List.getElem_toArray, List.getElem_cons_zero, List.getElem_cons_succ, Act.put, List.setIfInBounds_toArray, List.set_cons_zero, List.set_cons_succ]
          refine wpAnyH_take (i := 12) (v := .slice k6 kl l6) rfl (by kernel_rfl) (by kernel_rfl) (by kernel_rfl) (fun _ _ _ h => h) (Or.inl ⟨by rfl, fun w hSw => by go_simp⟩) h2 ?_
          try simp only [List.getElem_toArray, List.getElem_cons_zero, List.getElem_cons_succ, Act.put, List.setIfInBounds_toArray, List.set_cons_zero, List.set_cons_succ]
          refine wpAnyH_take (i := 13) (v := .int .i64 kk) rfl (by kernel_rfl) (by kernel_rfl) (by kernel_rfl) (fun _ _ _ h => h) (Or.inl ⟨by rfl, fun w hSw => by go_simp⟩) h2 ?_
          try simp only [List.getElem_toArray, List.getElem_cons_zero, List.getElem_cons_succ, Act.put, List.setIfInBounds_toArray, List.set_cons_zero, List.set_cons_succ]
          refine wpAnyH_done (by kernel_rfl) ?_ _
          have HFA : Hid (Fr w wa D (some g) (laid ds m)) := HR13.out.next HDA.out HKA.out (HGA.out.imp id (fun h => Nat.le_trans k0.size h))
          have HF14 := hide (HFA.out.kept (Kept.of_below HB6.out))
          have d14 : w14.cell? ⟨gX, 0, none⟩ = some (.slice da dn dc) := h2.cellOf d0 HXN.out
          have HW6 := hide (own_blk HO6.out)
          have HV6 := hide (own_blkK HP6.out)
          have HG5 : Hid (∀ x, W12.heap.size ≤ x ∧ x < w13.heap.size → x ∉ dkfp D bo ∧ x ≠ g ∧ x ≠ D) := fun x h5 => by
            have hs := HSZ.out
            have hgx := HGX.out
            have hD := HR.out.dk.lt
            refine ⟨HR.out.far (.inr (by omega)), ?_, by omega⟩
            rcases HGA.out with hg | hg
            · have := HR.out.dk.ltg _ hg
              omega
            · have := k0.size
              omega
          have HW5g : Hid (∀ a, b5 = some a → a.block ∉ dkfp D bo ∧ a.block ≠ g ∧ a.block ≠ D) := fun a ha => HG5.out _ (HW5.out.2 a ha)
          have HV5g : Hid (∀ a, k5 = some a → a.block ∉ dkfp D bo ∧ a.block ≠ g ∧ a.block ≠ D) := fun a ha => HG5.out _ (HV5.out.2 a ha)
          have HT5 : Hid (Blks w14 k5 Kr) := HV5.out.1.kept h2 (fun _ a ha => (HV5g.out a ha).1)
          have HS5 : Hid (Sl w14 b5 Rr) := HW5.out.1.kept h2 (fun _ a ha => (HW5g.out a ha).1)
          have HLI := hide (lies_ok D g da dn dc m ds w14 HF14.out.dk HIN.out.len (HIN.out.sl.kept (Kept.of_below HF14.out.below) (by simp)) hm5)
          clear HR13 HKA HGA k0 d0 d1 h2 HG5
          go_upto_region 17 with (go_at_call 12; refine HLI.out.mono ?_; rintro e w' ⟨rfl, n4, rfl⟩; clear HLI)
          obtain ⟨w15, hw15⟩ : ∃ w15, w14.drewN n4 = w15 := ⟨_, rfl⟩
          have hk15 : Kept [] w14 w15 := by rw [← hw15]; exact (Kept.refl [] w14).drewN n4
          rw [hw15]
          have HF15 := hide (HF14.out.kept hk15)
          have HL2 := hide (lay_any D (some g) none 0 0 [] (laid ds m) w15 HF15.out.dk rfl (Sl.nil _ _) (fun h => absurd rfl h) (by omega))
          have HS6 : Hid (Sl w15 b6 Rr) := HW6.out.1.kept hk15 (by simp)
          replace HS5 := hide (HS5.out.kept hk15 (by simp))
          have HT6 : Hid (Blks w15 k6 Kr) := HV6.out.1.kept hk15 (by simp)
          replace HT5 := hide (HT5.out.kept hk15 (by simp))
          clear hk15 hw15 HF14 d14
          go_upto_region 18 with (go_at_call 11; refine HL2.out.mono ?_; rintro e w17 ⟨g2, m2, rfl, hdk2, _, hk2, hg2⟩; have HF17 := hide (HF15.out.next hdk2 hk2 hg2); have HS5' : Hid (Sl w17 b5 Rr) := HS5.out.kept hk2 (fun _ a ha => by have h := HW5g.out a ha; simp [dkfp]; exact ⟨h.2.2, h.2.1⟩); have HS6' : Hid (Sl w17 b6 Rr) := HS6.out.kept hk2 (fun _ a ha => by have h := HW6.out.2 a ha; have h1 := HFA.out.dk.lt; have h3 := HFA.out.dk.ltg g rfl; simp [dkfp]; omega); have HT5' : Hid (Blks w17 k5 Kr) := HT5.out.kept hk2 (fun _ a ha => by have h := HV5g.out a ha; simp [dkfp]; exact ⟨h.2.2, h.2.1⟩); have HT6' : Hid (Blks w17 k6 Kr) := HT6.out.kept hk2 (fun _ a ha => by have h := HV6.out.2 a ha; have h1 := HFA.out.dk.lt; have h3 := HFA.out.dk.ltg g rfl; simp [dkfp]; omega); clear HL2 hdk2 hk2 hg2)
          have HNU := hide (num_any (kk : Int) w17)
          have HBY := hide (bytes_yes b6 b5 rl c6 c5 Rr w17 HRL.out (by have := HSM.out.1; omega) HS6'.out HS5'.out)
          have HRO : Hid (∀ W, Kept [] w17 W → Calls Try.prog 15 #[.slice k6 kl l6, .slice k5 kl l5] W fun e w' => e = .returned (.bool true) ∧ Kept [] W w') := fun W hk => rows_yes k6 k5 kl l6 l5 Kr W HKL.out (by have := HSM.out.2; omega) (HT6'.out.kept hk (by simp)) (HT5'.out.kept hk (by simp))
          have qk : ((kk : Int) != (kk : Int)) = false := by simp
          clear HS5 HS6 HS5' HS6' HT5 HT6 HT5' HT6' HV5 HV6 HV5g HW5 HW6 HW5g HFA HF15 HR HR12
          go_wp2_with (first
            | (go_at_call 13; refine HNU.out.mono ?_; rintro e w' ⟨rfl, hww⟩; obtain rfl := hww.symm; clear HNU)
            | (go_at_call 14; refine HBY.out.mono ?_; rintro e w18 ⟨rfl, hk18⟩; have HF18 := hide (HF17.out.kept hk18); have HRO2 := hide (HRO.out w18 hk18); clear hk18 HBY HRO)
            | (go_at_call 15; refine HRO2.out.mono ?_; rintro e w19 ⟨rfl, hk19⟩; have HF19 := hide (HF18.out.kept hk19); clear hk19 HRO2))
          go_roundw
          case rel => exact ⟨j + 1, some g2, _, by omega, by go_num, HF19⟩
          case measure => simp [intOf]; omega
        · as_aux_lemma =>
          have hB := HR.out.below
          have hj3 : ¬ (j : Int) < 2 * (k : Int) := by omega
          have w2k : IntKind.i64.wrap (2 * (k : Int)) = 2 * (k : Int) := by rw [IntKind.wrap_i64]; omega
          clear HR
          go_wp2_with (go_at_call 16; refine (known_ok _).mono ?_; rintro e wk ⟨rfl, hkk⟩)
          go_ret
          exact ⟨rfl, hB.trans (hkk.below hB.size (by simp))⟩

set_option maxHeartbeats 2000000 in
set_option maxRecDepth 100000 in
theorem packs_none (ao : Option Addr) (cap : Nat) (w : World) :
    Calls Try.prog 3 #[.slice ao 0 cap] w fun e w' => e = .returned (.bool true) ∧ Below w.heap.size w w' := by
  have hzv := Try.zeroDesk11
  go_enter Try.func3, Try.ntmps3
  go_wp2
  go_loop [3, 4] (fun x y => y = .int .i64 0 ∧ x = .int .i64 0) (fun x y => 0)
  case atStart => exact ⟨rfl, rfl⟩
  case round =>
    obtain ⟨rfl, rfl⟩ := hrel
    have hB : Below w.heap.size w (w.alloc (.cells #[.slice none 0 0] 28)) := (Below.refl _ _).alloc (Nat.le_refl _) _
    go_wp2
    generalize w.alloc _ = w1 at hB ⊢
    go_loop [6] (fun x => x = .int .i64 0) (fun x => 0)
    case atStart => rfl
    case round =>
      subst hrel
      go_wp2_with (go_at_call 16; refine (known_ok _).mono ?_; rintro e wk ⟨rfl, hkk⟩)
      go_ret
      exact ⟨rfl, hB.trans (hkk.below hB.size (by simp))⟩

theorem packs_walk (ao : Option Addr) (n cap : Nat) (L : List Qm) (w : World) (hn : L.length = n) (hm : n ≤ 9223372036854775807) (hL : Qms w ao L) :
    Calls Try.prog 3 #[.slice ao n cap] w fun e w' => e = .returned (.bool true) ∧ Below w.heap.size w w' := by
  by_cases h0 : n = 0
  · subst h0
    exact packs_none ao cap w
  · obtain ⟨b, off, rfl, hc, _⟩ := hL 0 (by omega)
    have hbw := World.block_lt_of_cell? _ _ (hc 0 _ rfl)
    refine packs_some b off n cap L w hn hm (fun i hi => ?_) hbw
    obtain ⟨b', off', e, h1, h2⟩ := hL i hi
    cases e
    exact ⟨h1, h2⟩

end Go.Proofs.Ytdnbpklnkmgmkaa
