import Derived.Test.YtmklodligplbaabGreatDt1o
import Derived.Laws.MakeOwn
import Derived.Laws.OwnMore
open Go.RowKit
set_option linter.unusedVariables false
set_option linter.unusedSimpArgs false
set_option maxRecDepth 100000
set_option maxHeartbeats 0
namespace Go.Proofs.YtmklodligplbaabGreat
section
def Tail (blk m : List UInt8) : Prop := blk.take (m.length % 64) = m.drop (m.length - m.length % 64)
structure Hs (w : World) (b : Nat) (ty : TypeId) (pre post : List Value) (m : List UInt8) : Prop where
 ex : ∃ st blk, Hp w b ty pre post st blk m.length ∧ (m ≠ [] -> st = (Sha.st m (m.length / 64)).words) ∧ Tail blk m
theorem Hs.lt {w : World} {b : Nat} {ty : TypeId} {pre post : List Value} {m : List UInt8} (h : Hs w b ty pre post m) : b < w.heap.size := by
 obtain ⟨st, blk, hp, _⟩ := h.ex
 exact hp.lt
theorem Hs.kept {l : List Nat} {w w' : World} {b : Nat} {ty : TypeId} {pre post : List Value} {m : List UInt8} (h : Hs w b ty pre post m) (hk : Kept l w w') (hn : b ∉ l) : Hs w' b ty pre post m := by
 obtain ⟨st, blk, hp, h1, h2⟩ := h.ex
 exact ⟨st, blk, hp.kept hk hn, h1, h2⟩
theorem last_spliceD {last zs t : List UInt8} {s : Nat} (hl : last.length = 64) (hs : s + t.length <= 64) (h : last.take s = zs) (hz : zs.length = s) :
  (splice last s t).take (s + t.length) = zs ++ t ∧ (splice last s t).length = 64 := by
 subst h
 refine ⟨?_, by rw [length_splice _ _ _ (by omega)]; exact hl⟩
 unfold splice
 rw [<-List.append_assoc, List.take_append_of_le_length (by simp; omega), List.take_of_length_le (by simp; omega)]
theorem tail_part {blk m t : List UInt8} {n s : Nat} (hn : m.length = n) (hs : s = n % 64) (hl : blk.length = 64) (hm : s + t.length < 64) (h : Tail blk m) : Tail (splice blk s t) (m ++ t) ∧ (n + t.length) / 64 = n / 64 := by
 unfold Tail at *
 rw [hn, <-hs] at h
 have e1 : (n + t.length) % 64 = s + t.length := by omega
 refine ⟨?_, by omega⟩
 rw [List.length_append, hn, e1, (last_spliceD hl (by omega) h (by simp; omega)).1, show n + t.length - (s + t.length) = n - s by omega, List.drop_append_of_le_length (by omega)]
theorem tail_full {blk m t : List UInt8} {n s : Nat} (hn : m.length = n) (hs : s = n % 64) (hl : blk.length = 64) (hm : s + t.length = 64) (h : Tail blk m) :
  splice blk s t = ((m ++ t).drop (64 * (n / 64))).take 64 ∧ (n + t.length) / 64 = n / 64 + 1 ∧ (n + t.length) % 64 = 0 := by
 unfold Tail at h
 rw [hn, <-hs] at h
 have h1 := last_spliceD hl (t := t) (by omega) h (by simp; omega)
 refine ⟨?_, by omega, by omega⟩
 have e : 64 * (n / 64) = n - s := by omega
 rw [e, List.drop_append_of_le_length (by omega), <-h1.1, hm, List.take_take, Nat.min_self, List.take_of_length_le (by omega)]
structure WrRel (w wr : World) (b : Nat) (ty : TypeId) (pre post : List Value) (m xs : List UInt8) (k : Nat) (ao : Option Addr) (cap : Nat) : Prop where
 le : k <= xs.length
 lc : xs.length - k <= cap
 sl : Sl wr ao (xs.drop k)
 far : xs.drop k ≠ [] -> ∀ a, ao = some a -> a.block ≠ b
 has : ∃ blk, Hp wr b ty pre post (Sha.st (m ++ xs.take k) ((m.length + k) / 64)).words blk (m.length + k) ∧ Tail blk (m ++ xs.take k)
 kept : Kept [b] w wr
theorem WrRel.next {w wr W2 : World} {b : Nat} {ty : TypeId} {pre post : List Value} {m xs : List UInt8} {k g off cap : Nat} (h : WrRel w wr b ty pre post m xs k (some ⟨g, off, none⟩) cap) (c : Nat) (hc : c <= xs.length - k)
  (hk : Kept [b] wr W2) (hw : ∃ blk, Hp W2 b ty pre post (Sha.st (m ++ xs.take (k + c)) ((m.length + (k + c)) / 64)).words blk (m.length + (k + c)) ∧ Tail blk (m ++ xs.take (k + c))) :
  WrRel w W2 b ty pre post m xs (k + c) (if cap = c then some ⟨g, off, none⟩ else some ⟨g, off + c, none⟩) (cap - c) := by
 have hle := h.le
 have hlc := h.lc
 refine ⟨by omega, by omega, ?_, ?_, hw, h.kept.tr hk⟩
 ·have h1 := (h.sl.kept hk (fun hne a ha => by simpa using h.far hne a ha)).drop c cap (by simp; omega) (by simp; omega)
  rwa [List.drop_drop] at h1
 ·intro hne a ha
  have hfar := h.far (by intro e; apply hne; rw [<-List.drop_drop, e, List.drop_nil]) _ rfl
  by_cases hc : cap = c
  ·rw [if_pos hc] at ha; cases ha; exact hfar
  ·rw [if_neg hc] at ha; cases ha; exact hfar
theorem Tryz.slice64D (W : World) (b o s : Nat) (hs : s < 64) :
  (Instr.sliceAt 121 (.pointer (some ⟨b, o, none⟩)) (some (.int .u64 s)) none none).run Tryz.prog W = .ok (.slice (some ⟨b, o + s, none⟩) (64 - s) (64 - s)) W := by
 have ha : Tryz.prog.arrayLen 121 = 64 := by kernel_rfl
 have hz : (sizeOf (Tryz.prog.elem 121)).run Tryz.prog W = .ok 1 W := by kernel_rfl
 have h := run_sliceAt_array_l (P := Tryz.prog) W 121 ⟨b, o, none⟩ (by kernel_rfl) .u64 s (by omega) (by rw [ha]; omega)
 rw [h, hz, ha]
 simp [slicedAt, Addr.add_mid, show 64 ≠ s by omega]
theorem Tryz.cutFromD (W : World) (g off L cap m : Nat) (hm : m <= L) :
  (Instr.slice 27 (.slice (some ⟨g, off, none⟩) L cap) (some (.int .i64 m)) none none).run Tryz.prog W = .ok (.slice (if cap = m then some ⟨g, off, none⟩ else some ⟨g, off + m, none⟩) (L - m) (cap - m)) W := by
 have hz : (sizeOf (Tryz.prog.elem 27)).run Tryz.prog W = .ok 1 W := by kernel_rfl
 have h := run_slice_l (P := Tryz.prog) W 27 (some ⟨g, off, none⟩) L cap (by kernel_rfl) .i64 m (by omega) (by omega)
 rw [h, hz]
 by_cases hc : cap = m <;> simp [sliced, Addr.add_mid, hc]
theorem Tryz.sizeByteD : (Tryz.prog.info? 5).map (·.size) = some 1 := by kernel_rfl
def lenOfD : Value -> Nat | .slice _ n _ => n | _ => 0
theorem kept_setCells (l : List Nat) {a : World} : ∀ (vs : List Value) (w : World) (b o : Nat), Kept l a w -> (b < a.heap.size -> b ∈ l) -> Kept l a (w.setCells b o vs)
 | [], w, b, o, h, _ => h
 | v :: vs, w, b, o, h, hb => kept_setCells l vs _ b (o + 1) (h.setCell (p := ⟨b, o, none⟩) hb v) hb
theorem kept_setRowD {l : List Nat} {a w : World} (h : Kept l a w) {g : Nat} (hg : g < a.heap.size -> g ∈ l) (cs : Array Value) : Kept l a (w.setRow g cs) :=
 h.trans (l2 := [g]) ⟨rfl, rfl, rfl, by simp [World.setRow], fun k _ hn => setRow_other w g k cs (by simpa using hn)⟩ (by simpa using hg)
theorem still_load_mid {P : Program} {op : Oper} {a : Act} {w : World} {K : Act -> Prop} (ty : TypeId) (x : Operand) (ho : op.op = .load ty x)
  (b o : Nat) (hx : a.eval x = .pointer (some ⟨b, o, none⟩)) (cs : List Value) (d : TypeDesc) (hc : w.rangeAt b o cs)
  (hu : P.underlying ty = some d) (hd : d.isRow = true) (hi : (P.info? ty).map (·.size) = some cs.length)
  (h : K (a.put op.dst (.agg cs.toArray))) : op.still P a w K := by
 unfold Oper.still execOp
 simp only [ho, hx, Instr.loadAt, Instr.sureAddr, Sem.run_bind, Sem.run_pure, Result.andThen_ok, run_loadVar_mid w b o ty cs d hc hu hd hi, Oper.stillUpon]
 exact ⟨trivial, h⟩
theorem write_ok (b : Nat) (ty : TypeId) (pre post : List Value) (m xs : List UInt8) (ao : Option Addr) (cap : Nat) (w : World) (hH : Hs w b ty pre post m) (hs : Sl w ao xs) (hfar : xs ≠ [] -> ∀ a, ao = some a -> a.block ≠ b) (hlc : xs.length <= cap) (hsum : m.length + xs.length < 9223372036854775808) (o : Nat) (ho : o = pre.length) :
  Calls Tryz.prog 109 #[.pointer (some ⟨b, o, none⟩), .slice ao xs.length cap] w fun e w' => e = .returned (.tuple #[]) ∧ Hs w' b ty pre post (m ++ xs) ∧ Kept [b] w w' := by
 obtain ⟨st, blk, hp, hst, htl⟩ := hH.ex
 have c72 : w.cell? ⟨b, o + 72, none⟩ = some (.int .u64 m.length) := by rw [ho]; exact hp.taken
 have HP : Hid (Hp w b ty pre post st blk m.length) := hp
 have HO : Hid (o = pre.length) := ho
 have HX : Hid (Sl w ao xs ∧ (xs ≠ [] -> ∀ a, ao = some a -> a.block ≠ b) ∧ Tail blk m ∧ (m ≠ [] -> st = (Sha.st m (m.length / 64)).words)) := ⟨hs, hfar, htl, hst⟩
 clear hH hs hfar hst htl hp ho
 go_enter Tryz.func109, Tryz.ntmps109
 by_cases h0 : m.length = 0
 case' pos =>
  rw [h0] at c72
  go_wp2_with (fail)
  refine (first_ok _).mono ?_
  rintro e w1 ⟨rfl, hb1⟩
  have hp1 : Hp w1 b ty pre post st blk m.length := HP.out.kept (Kept.of_below hb1) (by simp)
  have ht1 : w1.there b o (wds Sha.first.words).toArray.size := by rw [HO.out]; exact hp1.there
  have HI : Hid (WrRel w (w1.setCells b o (wds Sha.first.words)) b ty pre post m xs 0 ao cap) := by
   have hm : m = [] := List.length_eq_zero_iff.1 h0
   refine ⟨Nat.zero_le _, by simpa using hlc, ?_, by simpa using HX.out.2.1, ?_, ?_⟩
   ·refine Sl.kept (l := [b]) (by simpa using HX.out.1) (kept_setCells [b] _ _ _ _ ((Kept.of_below hb1).mono (by simp)) (by simp)) (fun hne a ha => by simpa using HX.out.2.1 (by simpa using hne) a ha)
   ·rw [HO.out]
    have h1 := hp1.setState Sha.first.words rfl
    subst hm
    exact ⟨blk, h1, by simp [Tail]⟩
   ·exact kept_setCells [b] _ _ _ _ ((Kept.of_below hb1).mono (by simp)) (by simp)
  clear hb1 hp1 HP c72
  go_wp2_with (refine wpList_store_mid rfl 137 (.tmp 15) (.tmp 13) rfl b o (wds Sha.first.words).toArray rfl rfl ht1 Tryz.info8 (by kernel_rfl) ?_)
  simp only [Act.put]
  clear ht1 h0
 case' neg =>
  have hz : ((m.length : Int) == 0) = false := by simp; exact fun h => h0 (by rw [h]; rfl)
  have HI : Hid (WrRel w w b ty pre post m xs 0 ao cap) := by
   refine ⟨Nat.zero_le _, by simpa using hlc, by simpa using HX.out.1, by simpa using HX.out.2.1, ?_, Kept.refl _ _⟩
   have := HX.out.2.2.2 (by rintro rfl; exact h0 rfl)
   simp only [List.take_zero, List.append_nil, Nat.add_zero]
   exact ⟨blk, this ▸ HP.out, HX.out.2.2.1⟩
  go_wp2
  clear HP c72 hz h0
 all_goals
  go_loopw [1, 4] (fun v _ wr => ∃ k ao' cap', v = .slice ao' (xs.length - k) cap' ∧ Hid (WrRel w wr b ty pre post m xs k ao' cap')) (fun v _ wr => lenOfD v)
  case atStart => exact ⟨0, ao, cap, rfl, HI⟩
  case round =>
   clear HI
   obtain ⟨k, ao', cap', rfl, HR⟩ := hrel
   have hk := HR.out.le
   have hlc' := HR.out.lc
   by_cases hr0 : xs.length - k = 0
   ·have hfin : Hid (Hs wr b ty pre post (m ++ xs) ∧ Kept [b] w wr) := by
     obtain ⟨blk, h1, h2⟩ := HR.out.has
     have e : xs.take k = xs := List.take_of_length_le (by omega)
     rw [e] at h1 h2
     have hkl : k = xs.length := by omega
     subst hkl
     exact ⟨⟨_, blk, by rw [List.length_append]; exact h1, fun _ => by rw [List.length_append], h2⟩, HR.out.kept⟩
    clear HR HX
    rw [hr0]
    go_wp2
    go_end0
    exact ⟨rfl, hfin.out⟩
   ·obtain ⟨blk', hp, htl⟩ := HR.out.has
    obtain ⟨n, hn⟩ : ∃ n, n = m.length + k := ⟨_, rfl⟩
    rw [<-hn] at hp
    have hn63 : n < 9223372036854775808 := by omega
    obtain ⟨s, hs⟩ : ∃ s, s = n % 64 := ⟨_, rfl⟩
    have hs64 : s < 64 := by omega
    have htm : (n : Int).tmod 64 = (s : Int) := by rw [Int.tmod_eq_emod_of_nonneg (by omega)]; omega
    obtain ⟨g, off, hao, hgb, hcells⟩ := HR.out.sl.open (by intro h; simp at h; omega)
    have hfar := HR.out.far (by intro h; simp at h; omega) _ hao
    obtain ⟨c, hc⟩ : ∃ c, c = Nat.min (xs.length - k) (64 - s) := ⟨_, rfl⟩
    have hc1 : c <= xs.length - k := by rw [hc]; exact Nat.min_le_left _ _
    have hc2 : c <= 64 - s := by rw [hc]; exact Nat.min_le_right _ _
    have hc3 : 0 < c := by rw [hc]; simp only [Nat.min_def]; split <;> omega
    have HM : Hid (c = Nat.min (xs.length - k) (64 - s)) := hc
    have HSn : Hid (s = n % 64) := hs
    have HN : Hid (n = m.length + k) := hn
    clear hc hs hn
    have htl2 : ((xs.drop k).take c).length = c := by simp; omega
    obtain ⟨t, ht⟩ := nm ((xs.drop k).take c)
    rw [ht] at htl2
    have HT : Hid ((xs.drop k).take c = t) := ht
    clear ht
    have c72 : wr.cell? ⟨b, o + 72, none⟩ = some (.int .u64 n) := by rw [HO.out]; exact hp.taken
    have hrw : wr.drew.heap[b]? = some (.cells (hrow pre post (Sha.st (m ++ xs.take k) (n / 64)).words blk' n).toArray ty (0, 0)) := by rw [HN.out]; rw [HN.out] at hp; exact hp.row
    have hsrc : ∀ j u, (bys t)[j]? = some u -> wr.drew.cell? ((⟨g, off, none⟩ : Addr).add j) = some u := by
     refine Sl.cells fun i hi => ?_
     rw [World.cell?_drew, hcells i (by simp; omega), <-HT.out]
     simp [show i < c by omega]
    have hsl := fun W => Tryz.slice64D W b (o + 8) s hs64
    subst hao
    clear hcells
    obtain ⟨ao2, hao2⟩ : ∃ ao2, ao2 = (if cap' = c then some (⟨g, off, none⟩ : Addr) else some ⟨g, off + c, none⟩) := ⟨_, rfl⟩
    have hcut : ∀ W, (Instr.slice 27 (.slice (some ⟨g, off, none⟩) (xs.length - k) cap') (some (.int .i64 c)) none none).run Tryz.prog W = .ok (.slice ao2 (xs.length - k - c) (cap' - c)) W := fun W => by rw [hao2]; exact Tryz.cutFromD W g off _ _ _ hc1
    have HA : Hid (ao2 = (if cap' = c then some (⟨g, off, none⟩ : Addr) else some ⟨g, off + c, none⟩)) := hao2
    clear hao2
    go_wp2
    go_still_tail 10, Tryz.followsD
    rw [World.drew_eq]
    have hw1 : Hp (wr.drew.setRow b ((hrow pre post (Sha.st (m ++ xs.take k) (n / 64)).words blk' n).take (o + 8 + s) ++ (bys t ++ (hrow pre post (Sha.st (m ++ xs.take k) (n / 64)).words blk' n).drop (o + 8 + s + (bys t).length))).toArray) b ty pre post (Sha.st (m ++ xs.take k) (n / 64)).words (splice blk' s t) n := by
     rw [HO.out]
     exact (hp.kept ((Kept.refl [] wr).drew) (by simp)).copied s t (by omega)
    have hk1 : Kept [b] wr (wr.drew.setRow b ((hrow pre post (Sha.st (m ++ xs.take k) (n / 64)).words blk' n).take (o + 8 + s) ++ (bys t ++ (hrow pre post (Sha.st (m ++ xs.take k) (n / 64)).words blk' n).drop (o + 8 + s + (bys t).length))).toArray) := kept_setRowD ((Kept.refl _ _).drew) (by simp) _
    refine wpList_copy_own rfl (.tmp 27) (.tmp 28) 27 27 rfl 5 Tryz.underlying27 Tryz.sizeByteD b (o + 8 + s) (64 - s) (64 - s) ⟨g, off, none⟩ (xs.length - k) cap' rfl rfl _ _ hrw (bys t) (by rw [bys_length, htl2]; exact HM.out) hsrc (by have h1 := hp.sl; have h2 := hp.bl; have h3 := HO.out; simp only [hrow, List.size_toArray, List.length_append, wds_len, bys_length, List.length_cons]; omega) (bys_oneCell t) ?_
    have hbl := hp.bl
    clear hrw hsrc hsl c72 hp
    rw [show (goInt (bys t).length) = .int .i64 c by rw [bys_length, htl2]; rfl]
    generalize wr.drew.setRow b _ = w1 at hw1 hk1 ⊢
    have d72 : w1.cell? ⟨b, o + 72, none⟩ = some (.int .u64 n) := by rw [HO.out]; exact hw1.taken
    have g72 : w1.frozen? ⟨b, o + 72, none⟩ = false := hw1.frozen _
    have hw2 : Hp (w1.setCell ⟨b, o + 72, none⟩ (.int .u64 ((n : Int) + (c : Int)))) b ty pre post (Sha.st (m ++ xs.take k) (n / 64)).words (splice blk' s t) (n + c) := by
     have := hw1.setN (n + c)
     rw [<-HO.out, show ((n + c : Nat) : Int) = (n : Int) + (c : Int) by omega] at this
     exact this
    have hk2 : Kept [b] wr (w1.setCell ⟨b, o + 72, none⟩ (.int .u64 ((n : Int) + (c : Int)))) := hk1.setCell (by simp) _
    have hmk : (m ++ xs.take k).length = n := by have := HN.out; simp; omega
    have HMT : Hid ((m ++ xs.take k) ++ t = m ++ xs.take (k + c)) := by
     show _ = _
     rw [<-HT.out, List.append_assoc, <-List.take_add]
    by_cases hfull : s + c = 64
    ·have htm2 : ((n : Int) + (c : Int)).tmod 64 = 0 := by rw [Int.tmod_eq_emod_of_nonneg (by omega)]; have := HSn.out; omega
     have hbig : (n : Int) + (c : Int) <= 18446744073709551615 := by omega
     have hTF := tail_full hmk HSn.out hbl (t := t) (by omega) htl
     clear hw1 hk1 htm htl
     go_wp2
     generalize w1.setCell _ _ = w2 at hw2 hk2 ⊢
     clear d72 g72
     have hq := Sha.st_ok (m ++ xs.take k) (n / 64)
     have HQ : Hid (Sha.st (m ++ xs.take (k + c)) ((m.length + (k + c)) / 64) = Sha.turn (Sha.st (m ++ xs.take k) (n / 64)) (splice blk' s t)) := by
      show _ = _
      have h1 := hTF.2.1
      rw [htl2] at h1
      rw [<-Nat.add_assoc, <-HN.out, h1, Sha.st, <-HMT.out, Sha.st_append _ _ _ (by rw [hmk]; omega), <-hTF.1]
     have HN3 : Hid (n + c = m.length + (k + c)) := by have := HN.out; show _ = _; omega
     have HTL : Hid (Tail (splice blk' s t) (m ++ xs.take (k + c))) := by
      rw [<-HMT.out]
      have h1 := hTF.2.2
      show (splice blk' s t).take _ = _
      rw [List.length_append, hmk, h1, List.take_zero, Nat.sub_zero, List.drop_of_length_le (by rw [List.length_append, hmk]; omega)]
     generalize Sha.st (m ++ xs.take k) (n / 64) = q at hq hw2 HQ
     have hrg : w2.rangeAt b o (wds q.words) := by rw [HO.out]; exact hw2.range
     have HRG : Hid (w2.rangeAt b o (wds q.words)) := hrg
     clear hrg
     clear hTF hmk htm2 hbig
     refine wp_region_any Tryz.followsD ?_
     rw [World.drew_eq]
     have hw3 : Hp w2.drew b ty pre post q.words (splice blk' s t) (n + c) := hw2.kept ((Kept.refl [] w2).drew) (by simp)
     have hk3 : Kept [b] wr w2.drew := hk2.drew
     have HRG : Hid (w2.drew.rangeAt b o (wds q.words)) := HRG.out
     clear hw2 hk2
     generalize w2.drew = w3 at hw3 hk3 HRG ⊢
     (refine wpAny_take (i := 0) (v := ?_) rfl (by kernel_rfl) (by kernel_rfl) (by kernel_rfl) (fun _ _ _ h => h) (Or.inl ⟨by rfl, ?_⟩) ?_; rotate_left; (intro w; go_simp; try (with_reducible rfl)); simp only [zz])
     (refine wpAny_take (i := 1) (v := ?_) rfl (by kernel_rfl) (by kernel_rfl) (by kernel_rfl) (fun _ _ _ h => h) (Or.inl ⟨by rfl, ?_⟩) ?_; rotate_left; (intro w; go_simp; try (with_reducible rfl)); simp only [zz])
     (refine wpAny_take (i := 2) (v := ?_) rfl (by kernel_rfl) (by kernel_rfl) (by kernel_rfl) (fun _ _ _ h => h) (Or.inl ⟨by rfl, ?_⟩) ?_; rotate_left; (intro w; go_simp; try (with_reducible rfl)); simp only [zz])
     (refine wpAny_take (i := 3) (v := ?_) rfl (by kernel_rfl) (by kernel_rfl) (by kernel_rfl) (fun _ _ _ h => h) (Or.inl ⟨by rfl, ?_⟩) ?_; rotate_left; (intro w; go_simp; try (with_reducible rfl)); simp only [zz])
     (refine wpAny_take (i := 5) (v := ?_) rfl (by kernel_rfl) (by kernel_rfl) (by kernel_rfl) (fun _ _ _ h => h) (Or.inl ⟨by rfl, ?_⟩) ?_; rotate_left; (intro w; go_simp; try (with_reducible rfl)); simp only [zz])
     (refine wpAny_take (i := 6) (v := ?_) rfl (by kernel_rfl) (by kernel_rfl) (by kernel_rfl) (fun _ _ _ h => h) (Or.inl ⟨by rfl, ?_⟩) ?_; rotate_left; (intro w; go_simp; try (with_reducible rfl)); simp only [zz])
     (refine wpAny_take (i := 7) (v := ?_) rfl (by kernel_rfl) (by kernel_rfl) (by kernel_rfl) (fun _ _ _ h => h) (Or.inl ⟨by rfl, ?_⟩) ?_; rotate_left; (intro w; go_simp; try (with_reducible rfl)); simp only [zz])
     (refine wpAny_all (rs := [4]) (by kernel_rfl) (by decide) (fun j hj => ?_); obtain rfl : j = 4 := (by simpa using hj); clear hj; refine wpOp_step rfl (fun K hK => ?_); rw [if_pos (by simp [Region.wanted])]; refine wp_load_mid 137 (.tmp 48) rfl b o rfl (wds q.words) _ HRG.out Tryz.underlying137 rfl Tryz.info8 ?_; refine hK _ _ ?_; clear hK K; try simp only [zz])
     (refine wpAny_all (rs := [8]) (by kernel_rfl) (by decide) (fun j hj => ?_); obtain rfl : j = 8 := (by simpa using hj); clear hj; refine wpOp_step rfl (fun K hK => ?_); rw [if_pos (by simp [Region.wanted])]; go_simp)
     refine (turn_ok q hq b (o + 8) (splice blk' s t) w3 hw3.bl hw3.lt (fun i hi => by rw [HO.out]; exact hw3.byte i hi)).mono ?_
     rintro e w4 ⟨rfl, hb4⟩
     refine hK _ _ ?_
     clear hK K
     have hw4 : Hp w4 b ty pre post q.words (splice blk' s t) (n + c) := hw3.kept (Kept.of_below hb4) (by simp)
     have hk4 : Kept [b] wr w4 := hk3.trans (l2 := []) (Kept.of_below hb4) (by simp)
     have ht4 : w4.there b o (wds (Sha.turn q (splice blk' s t)).words).toArray.size := by rw [HO.out]; exact hw4.there
     have hon : (wds (Sha.turn q (splice blk' s t)).words).toArray.all (·.oneCell') = true := Array.all_eq_true_iff_forall_mem.2 fun v hv => wds_oneCell _ v (by simpa using hv)
     have HS : Hid (WrRel w (w4.setCells b o (wds (Sha.turn q (splice blk' s t)).words)) b ty pre post m xs (k + c) ao2 (cap' - c)) := by
      show WrRel _ _ _ _ _ _ _ _ _ _ _
      rw [HA.out]
      refine HR.out.next c hc1 (kept_setCells [b] _ _ _ _ hk4 (by simp)) ⟨splice blk' s t, ?_, HTL.out⟩
      rw [HQ.out, <-HN3.out, HO.out]
      exact hw4.setState _ rfl
     clear hw3 hk3 hb4 hw4 hk4 HQ HN3 HTL HR
     generalize Sha.turn q (splice blk' s t) = q2 at ht4 hon HS ⊢
     try simp only [zz]
     (refine wpAny_all (rs := [9]) (by kernel_rfl) (by decide) (fun j hj => ?_); obtain rfl : j = 9 := (by simpa using hj); clear hj; refine wpOp_step rfl (fun K hK => ?_); rw [if_pos (by simp [Region.wanted])]; go_simp; refine hK _ _ ?_; clear hK K; try simp only [zz])
     (refine wpAny_all (rs := [10]) (by kernel_rfl) (by decide) (fun j hj => ?_); obtain rfl : j = 10 := (by simpa using hj); clear hj; refine wpOp_step rfl (fun K hK => ?_); rw [if_pos (by simp [Region.wanted])]; go_simp; refine hK _ _ ?_; clear hK K; try simp only [zz])
     (refine wpAny_all (rs := [11]) (by kernel_rfl) (by decide) (fun j hj => ?_); obtain rfl : j = 11 := (by simpa using hj); clear hj; refine wpOp_step rfl (fun K hK => ?_); rw [if_pos (by simp [Region.wanted])]; refine wp_store_mid 137 (.tmp 55) (.tmp 53) rfl b o (wds q2.words).toArray rfl rfl ht4 Tryz.info8 hon ?_; refine hK _ _ ?_; clear hK K; try simp only [zz])
     refine wpAny_done (by kernel_rfl) ?_ _
     clear ht4 hon
     generalize w4.setCells _ _ _ = w5 at HS ⊢
     go_wp2
     go_roundw
     case rel => first | exact ⟨k + c, ao2, cap' - c, by rw [show xs.length - k - c = xs.length - (k + c) by omega], HS⟩ | ((repeat apply Exists.intro); exact ⟨⟨k + c, ao2, cap' - c, by rw [show xs.length - k - c = xs.length - (k + c) by omega], HS⟩, rfl⟩)
     case measure => simp only [lenOfD]; omega
    ·have htm2 : ((n : Int) + (c : Int)).tmod 64 = ((s + c : Nat) : Int) := by rw [Int.tmod_eq_emod_of_nonneg (by omega)]; have := HSn.out; omega
     have hz : (((s + c : Nat) : Int) == 0) = false := by simp; omega
     have hTP := tail_part hmk HSn.out hbl (t := t) (by omega) htl
     have HS : Hid (WrRel w (w1.setCell ⟨b, o + 72, none⟩ (.int .u64 ((n : Int) + (c : Int)))) b ty pre post m xs (k + c) ao2 (cap' - c)) := by
      show WrRel _ _ _ _ _ _ _ _ _ _ _
      rw [HA.out]
      refine HR.out.next c hc1 hk2 ⟨splice blk' s t, ?_, ?_⟩
      ·rw [<-HMT.out, <-Nat.add_assoc, <-HN.out, Sha.st_append _ _ _ (by rw [hmk]; have := hTP.2; rw [htl2] at this; omega)]
       have := hTP.2
       rw [htl2] at this
       rw [this]; exact hw2
      ·rw [<-HMT.out]; exact hTP.1
     clear hw1 hk1 htm hw2 hk2 hTP htl
     go_wp2
     go_roundw
     case rel => first | exact ⟨k + c, ao2, cap' - c, by rw [show xs.length - k - c = xs.length - (k + c) by omega], HS⟩ | ((repeat apply Exists.intro); exact ⟨⟨k + c, ao2, cap' - c, by rw [show xs.length - k - c = xs.length - (k + c) by omega], HS⟩, rfl⟩)
     case measure => simp only [lenOfD]; omega
end

section
def low (B : Nat) : Nat -> List UInt8
 | 0 => []
 | j + 1 => UInt8.ofNat (B / 256 ^ j % 256) :: low B j
theorem low_len (B j : Nat) : (low B j).length = j := by induction j with | zero => rfl | succ j ih => simp [low, ih]
theorem low_eight (B : Nat) : low B 8 = Sha.be8 B := rfl
theorem set_low (k : Nat) (L : List UInt8) (v : UInt8) (hk : 1 <= k) : ((128 :: List.replicate k 0) ++ L).set k v = (128 :: List.replicate (k - 1) 0) ++ v :: L := by
 obtain ⟨k, rfl⟩ := Nat.exists_eq_add_of_le' hk
 rw [List.cons_append, List.set_cons_succ, List.replicate_succ', List.append_assoc, List.set_append_right _ _ (by simp)]
 simp
theorem Tryz.infoByteD : (Tryz.prog.info? 5).map (fun i => (i.zero, i.size, i.bytes)) = some (some (.int .u8 0), 1, 1) := by kernel_rfl
theorem Tryz.makeBytes (W : World) (k : IntKind) (z : Nat) (hz : z <= 140737488355328) :
  (Instr.makeSlice 27 (.int k z) (.int k z)).run Tryz.prog W = .ok (.slice (some ⟨W.heap.size, 0, none⟩) z z) (W.alloc (.cells (bys (List.replicate z 0)).toArray 5)) := by
 obtain ⟨i0, hi, hz0, hz1, hz2⟩ := info_parts Tryz.infoByteD
 have hr := run_make (P := Tryz.prog) W 27 5 i0 (.int .u8 0) Tryz.underlying27 hi hz0 k k (z : Int) (z : Int) (by omega) (by omega) (by rw [hz2]; omega) (by omega)
 rw [hr]
 simp only [Int.toNat_natCast]
 have e : madeCells (Value.cells (.int .u8 0)) (z * i0.size) = (bys (List.replicate z 0)).toArray := by
  rw [hz1, Nat.mul_one]
  apply Array.toList_inj.1
  show (madeCells #[.int .u8 0] z).toList = _
  rw [toList_madeCells_one]
  simp [bys]
 rw [e]
structure Blk (w : World) (g : Nat) (R : List UInt8) : Prop where
 row : w.heap[g]? = some (.cells (bys R).toArray 5 (0, 0))
theorem Blk.lt {w : World} {g : Nat} {R : List UInt8} (h : Blk w g R) : g < w.heap.size := (gs h.row).1
theorem Blk.cell {w : World} {g : Nat} {R : List UInt8} (h : Blk w g R) (i : Nat) (hi : i < R.length) : w.cell? ⟨g, i, none⟩ = some (.int .u8 (R.getD i 0).toNat) := by
 rw [cell_of_row _ _ _ _ _ _ h.row, List.getElem?_toArray, bys_at hi]
theorem Blk.frozen {w : World} {g : Nat} {R : List UInt8} (h : Blk w g R) (i : Nat) : w.frozen? ⟨g, i, none⟩ = false := frozen_of_row _ _ _ _ _ h.row
theorem Blk.set {w : World} {g : Nat} {R : List UInt8} (h : Blk w g R) (i : Nat) (c : UInt8) : Blk (w.setCell ⟨g, i, none⟩ (.int .u8 c.toNat)) g (R.set i c) := by
 refine ⟨?_⟩
 rw [heap_setCell_same _ _ _ _ _ _ h.row, List.setIfInBounds_toArray, bys_set]
theorem Blk.sl {w : World} {g : Nat} {R : List UInt8} (h : Blk w g R) : Sl w (some ⟨g, 0, none⟩) R := Sl.of fun i hi => by rw [Nat.zero_add]; exact h.cell i hi
theorem Blk.kept {l : List Nat} {w w' : World} {g : Nat} {R : List UInt8} (h : Blk w g R) (hk : Kept l w w') (hn : g ∉ l) : Blk w' g R := ⟨by rw [hk.block g h.lt hn]; exact h.row⟩
theorem u8_mod (n : Nat) : ((UInt8.ofNat (n % 256)).toNat : Int) = (n : Int) % 256 := by
 rw [UInt8.toNat_ofNat']
 simp
theorem ending_ok (n : Nat) (w : World) (hn : n < 18446744073709551616) :
  Calls Tryz.prog 129 #[.int .u64 n] w fun e w' => e = .returned (.slice (some ⟨w.heap.size, 0, none⟩) (Sha.size n) (Sha.size n)) ∧ Blk w' w.heap.size (Sha.ending n) ∧ Below w.heap.size w w' := by
 have hsz := Sha.size_ge n
 have HE : Hid (Sha.ending n = 128 :: (List.replicate (Sha.size n - 9) 0 ++ Sha.be8 (8 * n % 18446744073709551616))) := rfl
 obtain ⟨B, hB⟩ : ∃ B, B = 8 * n % 18446744073709551616 := ⟨_, rfl⟩
 rw [<-hB] at HE
 have eB : (8 * (n : Int)) % 18446744073709551616 = B := by omega
 have eB' : IntKind.u64.wrap (8 * (n : Int)) = B := by rw [IntKind.wrap_u64]; omega
 have hBl : B < 18446744073709551616 := by omega
 obtain ⟨s, hs⟩ : ∃ s, s = n % 64 := ⟨_, rfl⟩
 have hs64 : s < 64 := by omega
 have htm : (n : Int).tmod 64 = (s : Int) := by rw [Int.tmod_eq_emod_of_nonneg (by omega)]; omega
 have hzz : Sha.size n = if 64 - s < 9 then 128 - s else 64 - s := by rw [hs]; rfl
 obtain ⟨z, hz⟩ : ∃ z, z = Sha.size n := ⟨_, rfl⟩
 rw [<-hz] at hsz HE hzz ⊢
 have HMK : Hid (∀ W, (Instr.makeSlice 27 (.int .u64 z) (.int .u64 z)).run Tryz.prog W = .ok (.slice (some ⟨W.heap.size, 0, none⟩) z z) (W.alloc (.cells (bys (List.replicate z 0)).toArray 5))) := fun W => Tryz.makeBytes W .u64 z (by omega)
 clear hB hs hz
 go_enter Tryz.func129, Tryz.ntmps129
 by_cases h9 : 64 - s < 9
 case' pos =>
  rw [if_pos h9] at hzz
  have e1 : (64 : Int) - (s : Int) + 64 = z := by omega
  have e2 : (64 : Int) - (s : Int) < 9 := by omega
  clear hzz
  go_wp2
 case' neg =>
  rw [if_neg h9] at hzz
  have e1 : (64 : Int) - (s : Int) = z := by omega
  have e2 : decide ((z : Int) < 9) = false := by simp; omega
  clear hzz
  go_wp2
 all_goals
  rw [HMK.out w]
  clear HMK e1 e2 htm h9
  obtain ⟨G, hG⟩ : ∃ G, G = w.heap.size := ⟨_, rfl⟩
  have hb1 : Blk (w.alloc (.cells (bys (List.replicate z 0)).toArray 5)) G (List.replicate z 0) := ⟨by rw [hG]; exact heap_alloc_new _ _⟩
  have hB1 : Below w.heap.size w (w.alloc (.cells (bys (List.replicate z 0)).toArray 5)) := (Below.refl _ _).alloc (Nat.le_refl _) _
  rw [<-hG]
  have HG : Hid (G = w.heap.size) := hG
  clear hG
  generalize w.alloc _ = w1 at hb1 hB1 ⊢
  have c0 := hb1.cell 0 (by simp; omega)
  have f0 := hb1.frozen 0
  have lz : (0 : Int) < (z : Int) := by omega
  have HB2 : Hid (Blk (w1.setCell ⟨G, 0, none⟩ (.int .u8 128)) G ((128 :: List.replicate (z - 1 - 0) 0) ++ low B 0)) := by
   have := hb1.set 0 128
   show Blk _ _ _
   rw [show (128 :: List.replicate (z - 1 - 0) 0) ++ low B 0 = (List.replicate z 0).set 0 128 by
    obtain ⟨k, rfl⟩ : ∃ k, z = k + 1 := ⟨z - 1, by omega⟩
    simp [low, List.replicate_succ]]
   exact this
  have HB3 : Hid (Below w.heap.size w (w1.setCell ⟨G, 0, none⟩ (.int .u8 128))) := by
   have := HG.out
   exact ⟨hB1.os, hB1.tape, hB1.output, by rw [World.size_setCell]; exact hB1.size, fun k hk => (heap_setCell_other _ _ _ _ (by show k ≠ G; omega)).trans (hB1.block k hk)⟩
  clear hb1 hB1
  generalize (List.replicate z (0 : UInt8)).getD 0 0 = v0 at c0
  go_wp2
  clear c0 f0
  generalize w1.setCell _ _ = w2 at HB2 HB3 ⊢
  go_loopw [5, 6] (fun x i wr => ∃ j : Nat, j <= 8 ∧ x = .int .u64 (B / 256 ^ j : Nat) ∧ i = .int .i64 ((z : Int) - 1 - (j : Int)) ∧ Hid (Blk wr G ((128 :: List.replicate (z - 1 - j) 0) ++ low B j) ∧ Below w.heap.size w wr)) (fun x i wr => (intOf i + 9 - (z : Int)).toNat)
  case atStart => exact ⟨0, by omega, by simp, by simp, HB2.out, HB3.out⟩
  case round =>
   clear HB2 HB3
   obtain ⟨j, hj, rfl, rfl, HR⟩ := hrel
   by_cases hlt : j < 8
   ·obtain ⟨i, hi⟩ : ∃ i, i = z - 1 - j := ⟨_, rfl⟩
    have ei : (z : Int) - 1 - (j : Int) = i := by omega
    have li : (i : Int) < (z : Int) := by omega
    have hlen : ((128 :: List.replicate (z - 1 - j) 0) ++ low B j).length = z := by simp [low_len]; omega
    have ci := HR.out.1.cell i (by rw [hlen]; omega)
    have fi := HR.out.1.frozen i
    have hge : (z : Int) - 8 <= (i : Int) := by omega
    obtain ⟨x, hx⟩ : ∃ x, x = B / 256 ^ j := ⟨_, rfl⟩
    have hxl : x < 18446744073709551616 := by rw [hx]; exact Nat.lt_of_le_of_lt (Nat.div_le_self _ _) hBl
    have e8 : (x : Int) / 256 = (B / 256 ^ (j + 1) : Nat) := by rw [Nat.pow_succ, <-Nat.div_div_eq_div_mul, <-hx]; omega
    have HS : Hid (Blk (wr.setCell ⟨G, i, none⟩ (.int .u8 ((x : Int) % 256))) G ((128 :: List.replicate (z - 1 - (j + 1)) 0) ++ low B (j + 1)) ∧ Below w.heap.size w (wr.setCell ⟨G, i, none⟩ (.int .u8 ((x : Int) % 256)))) := by
     have h1 := HR.out.1.set i (UInt8.ofNat (B / 256 ^ j % 256))
     rw [u8_mod, <-hx, hi, set_low _ _ _ (by omega), <-hi] at h1
     have h2 := HR.out.2
     have := HG.out
     refine ⟨?_, ⟨h2.os, h2.tape, h2.output, by rw [World.size_setCell]; exact h2.size, fun k hk => (heap_setCell_other _ _ _ _ (by show k ≠ G; omega)).trans (h2.block k hk)⟩⟩
     rw [show z - 1 - (j + 1) = i - 1 by omega, low, <-hx]
     exact h1
    rw [ei, <-hx]
    clear HR hlen
    generalize ((128 :: List.replicate (z - 1 - j) 0) ++ low B j).getD i 0 = v at ci
    have HI : Hid (i = z - 1 - j) := hi
    clear hi hx ei
    go_wp2
    go_roundw
    case rel => exact ⟨j + 1, by omega, by first | rfl | rw [e8], by have := HI.out; congr 1; omega, HS.out⟩
    case measure => have := HI.out; simp [intOf]; omega
   ·obtain rfl : j = 8 := by omega
    have HFIN : Hid (Blk wr w.heap.size (Sha.ending n) ∧ Below w.heap.size w wr) := by
     have h := HR.out
     refine ⟨?_, h.2⟩
     rw [HE.out, <-low_eight, <-HG.out]
     have := h.1
     rw [show z - 1 - 8 = z - 9 by omega] at this
     exact this
    clear HR
    go_wp2
    go_ret
    exact ⟨by show Ending.returned (.slice (some ⟨G, 0, none⟩) z z) = _; rw [HG.out], HFIN.out⟩
end

section
def zero32 : Array Value := (bys (List.replicate 32 0)).toArray
theorem Tryz.zeroB32 (W : World) : (zeroValue 22).run Tryz.prog W = .ok (.agg zero32) W := by kernel_rfl
theorem Tryz.zeroID (W : World) : (zeroValue 23).run Tryz.prog W = .ok (.agg zero32) W := by kernel_rfl
theorem Tryz.info32 : (Tryz.prog.info? 22).map (·.size) = some 32 := by kernel_rfl
theorem Tryz.infoID : (Tryz.prog.info? 23).map (·.size) = some 32 := by kernel_rfl
structure Fill32 (w wr : World) (ty : TypeId) (r B : Nat) (A : List UInt8) : Prop where
 res : wr.heap[r]? = some (.cells zero32 ty (0, 0))
 arr : wr.heap[B]? = some (.cells (bys A).toArray ty (0, 0))
 len : A.length = 32
 below : Below w.heap.size w wr
 ps : w.heap.size <= r ∧ w.heap.size <= B ∧ r ≠ B
theorem Fill32.cell {w wr : World} {ty : TypeId} {r B : Nat} {A : List UInt8} (h : Fill32 w wr ty r B A) (i : Nat) (hi : i < 32) : wr.cell? ⟨B, i, none⟩ = some (.int .u8 (A.getD i 0).toNat) := by
 rw [cell_of_row _ _ _ _ _ _ h.arr, List.getElem?_toArray, bys_at (by rw [h.len]; exact hi)]
theorem Fill32.frozen {w wr : World} {ty : TypeId} {r B : Nat} {A : List UInt8} (h : Fill32 w wr ty r B A) (i : Nat) : wr.frozen? ⟨B, i, none⟩ = false := frozen_of_row _ _ _ _ _ h.arr
theorem Fill32.drewN {w wr : World} {ty : TypeId} {r B : Nat} {A : List UInt8} (h : Fill32 w wr ty r B A) (n : Nat) : Fill32 w (wr.drewN n) ty r B A := ⟨h.res, h.arr, h.len, ⟨h.below.os, h.below.tape, h.below.output, h.below.size, h.below.block⟩, h.ps⟩
theorem Fill32.drew {w wr : World} {ty : TypeId} {r B : Nat} {A : List UInt8} (h : Fill32 w wr ty r B A) : Fill32 w wr.drew ty r B A := h.drewN 1
theorem Fill32.set {w wr : World} {ty : TypeId} {r B : Nat} {A : List UInt8} (h : Fill32 w wr ty r B A) (i : Nat) (v : UInt8) : Fill32 w (wr.setCell ⟨B, i, none⟩ (.int .u8 v.toNat)) ty r B (A.set i v) := by
 have := h.ps
 refine ⟨by rw [heap_setCell_other _ _ _ _ (by show r ≠ B; omega)]; exact h.res, ?_, by simp [h.len], ?_, h.ps⟩
 ·rw [heap_setCell_same _ _ _ _ _ _ h.arr, List.setIfInBounds_toArray, bys_set]
 ·exact ⟨h.below.os, h.below.tape, h.below.output, by rw [World.size_setCell]; exact h.below.size, fun k hk => (heap_setCell_other _ _ _ _ (by show k ≠ B; omega)).trans (h.below.block k hk)⟩
theorem Fill32.later {w wr w2 : World} {ty : TypeId} {r B : Nat} {A : List UInt8} (h : Fill32 w wr ty r B A) (hb : Below wr.heap.size wr w2) : Fill32 w w2 ty r B A :=
 ⟨(hb.block r (gs h.res).1).trans h.res, (hb.block B (gs h.arr).1).trans h.arr, h.len, h.below.trans (hb.mono h.below.size), h.ps⟩
theorem bys_all (l : List UInt8) : (bys l).toArray.all (·.oneCell') = true := Array.all_eq_true_iff_forall_mem.2 fun v hv => bys_oneCell _ v (by simpa using hv)
theorem blocks3 (w : World) (o1 o2 o3 : Obj) : (((w.alloc o1).alloc o2).alloc o3).heap[w.heap.size]? = some o1 ∧ (((w.alloc o1).alloc o2).alloc o3).heap[w.heap.size + 1]? = some o2 ∧ (((w.alloc o1).alloc o2).alloc o3).heap[w.heap.size + 1 + 1]? = some o3 := by
 have e : (((w.alloc o1).alloc o2).alloc o3).heap = ((w.heap.push o1).push o2).push o3 := rfl
 rw [e]
 refine ⟨?_, ?_, ?_⟩
 ·rw [Array.getElem?_push, if_neg (by simp <;> omega), Array.getElem?_push, if_neg (by simp), Array.getElem?_push, if_pos rfl]
 ·rw [Array.getElem?_push, if_neg (by simp), Array.getElem?_push, if_pos (by simp)]
 ·rw [Array.getElem?_push, if_pos (by simp)]
def laid (L : List Nat) : Nat -> List UInt8
 | 0 => List.replicate 32 0
 | k + 1 => ((((laid L k).set (4 * k) (UInt8.ofNat (L.getD k 0 / 16777216 % 256))).set (4 * k + 1) (UInt8.ofNat (L.getD k 0 / 65536 % 256))).set (4 * k + 2) (UInt8.ofNat (L.getD k 0 / 256 % 256))).set (4 * k + 3) (UInt8.ofNat (L.getD k 0 % 256))
theorem laid_all (s : Sha.S8) : laid s.words 8 = Sha.bytes s := by kernel_rfl
theorem inBytes_ok (s : Sha.S8) (hs : s.Ok) (w : World) :
  Calls Tryz.prog 130 #[.agg (wds s.words).toArray] w fun e w' => e = .returned (.agg (bys (Sha.bytes s)).toArray) ∧ Below w.heap.size w w' := by
 have hz := Tryz.zeroB32
 obtain ⟨S, hS⟩ : ∃ S, S = w.heap.size := ⟨_, rfl⟩
 obtain ⟨r, hr⟩ : ∃ S, S = w.heap.size + 1 := ⟨_, rfl⟩
 obtain ⟨B, hB⟩ : ∃ r, r = w.heap.size + 1 + 1 := ⟨_, rfl⟩
 have h3 := blocks3 w (.cells (wds s.words).toArray 137) (.cells zero32 22) (.cells zero32 22)
 have hst := h3.1
 have HI : Hid (Fill32 w (((w.alloc (.cells (wds s.words).toArray 137)).alloc (.cells zero32 22)).alloc (.cells zero32 22)) 22 r B (laid s.words 0)) := by
  subst hr; subst hB
  exact ⟨h3.2.1, h3.2.2, rfl, ((((Below.refl _ _).alloc (Nat.le_refl _) _).alloc (by simp) _).alloc (by simp; omega) _), by omega⟩
 clear h3
 go_enter Tryz.func130, Tryz.ntmps130
 go_wp2_with (refine wpList_load_row rfl 137 (.tmp 1) rfl w.heap.size rfl 137 _ (0, 0) _ hst Tryz.underlying137 rfl Tryz.info8 ?_)
 rw [<-hB, <-hr, <-hS]
 clear hB hr hS hst hz
 generalize ((w.alloc _).alloc _).alloc _ = w1 at HI ⊢
 go_loopw [4, 5, 7] (fun _ _ i wr => ∃ k : Nat, k <= 8 ∧ i = .int .i64 k ∧ Hid (Fill32 w wr 22 r B (laid s.words k))) (fun _ _ i wr => 8 - (intOf i).toNat)
 case atStart => exact ⟨0, by omega, rfl, HI⟩
 case round =>
  clear HI
  obtain ⟨k, hk, rfl, HR⟩ := hrel
  by_cases hlt : k < 8
  ·have hx := fun W => Tryz.index8 s k hlt W
   have hxl := words_ok hs k
   have HL : Hid (laid s.words (k + 1) = ((((laid s.words k).set (4 * k) (UInt8.ofNat (s.words.getD k 0 / 16777216 % 256))).set (4 * k + 1) (UInt8.ofNat (s.words.getD k 0 / 65536 % 256))).set (4 * k + 2) (UInt8.ofNat (s.words.getD k 0 / 256 % 256))).set (4 * k + 3) (UInt8.ofNat (s.words.getD k 0 % 256))) := rfl
   generalize s.words.getD k 0 = x at hx hxl HL
   obtain ⟨j0, hj0⟩ : ∃ j, j = 4 * k := ⟨_, rfl⟩
   obtain ⟨j1, hj1⟩ : ∃ j, j = 4 * k + 1 := ⟨_, rfl⟩
   obtain ⟨j2, hj2⟩ : ∃ j, j = 4 * k + 2 := ⟨_, rfl⟩
   obtain ⟨j3, hj3⟩ : ∃ j, j = 4 * k + 3 := ⟨_, rfl⟩
   rw [<-hj1, <-hj2, <-hj3, <-hj0] at HL
   have e0 : 4 * (k : Int) = j0 := by omega
   have e1 : (j0 : Int) + 1 = j1 := by omega
   have e2 : (j0 : Int) + 2 = j2 := by omega
   have e3 : (j0 : Int) + 3 = j3 := by omega
   have l0 : (j0 : Int) < 32 := by omega
   have l1 : (j1 : Int) < 32 := by omega
   have l2 : (j2 : Int) < 32 := by omega
   have l3 : (j3 : Int) < 32 := by omega
   have c0 := HR.out.cell j0 (by omega)
   have c1 := HR.out.cell j1 (by omega)
   have c2 := HR.out.cell j2 (by omega)
   have c3 := HR.out.cell j3 (by omega)
   have f0 := HR.out.frozen j0
   have f1 := HR.out.frozen j1
   have f2 := HR.out.frozen j2
   have f3 := HR.out.frozen j3
   have n01 : j0 ≠ j1 := by omega
   have n02 : j0 ≠ j2 := by omega
   have n03 : j0 ≠ j3 := by omega
   have n12 : j1 ≠ j2 := by omega
   have n13 : j1 ≠ j3 := by omega
   have n23 : j2 ≠ j3 := by omega
   clear hj0 hj1 hj2 hj3
   have HS : Hid (Fill32 w ((((wr.setCell ⟨B, j0, none⟩ (.int .u8 ((x : Int) / 16777216))).setCell ⟨B, j1, none⟩ (.int .u8 ((x : Int) / 65536 % 256))).setCell ⟨B, j2, none⟩ (.int .u8 ((x : Int) / 256 % 256))).setCell ⟨B, j3, none⟩ (.int .u8 ((x : Int) % 256))) 22 r B (laid s.words (k + 1))) := by
    have h := (((HR.out.set j0 (UInt8.ofNat (x / 16777216 % 256))).set j1 (UInt8.ofNat (x / 65536 % 256))).set j2 (UInt8.ofNat (x / 256 % 256))).set j3 (UInt8.ofNat (x % 256))
    rw [u8_mod, u8_mod, u8_mod, u8_mod] at h
    show Fill32 _ _ _ _ _ _
    rw [HL.out]
    have e : ((x / 16777216 : Nat) : Int) % 256 = (x : Int) / 16777216 := by omega
    have e2 : ((x / 65536 : Nat) : Int) = (x : Int) / 65536 := by omega
    have e3 : ((x / 256 : Nat) : Int) = (x : Int) / 256 := by omega
    rw [e, e2, e3] at h
    exact h
   go_wp2
   go_roundw
   case rel => exact ⟨k + 1, by omega, by go_num, HS⟩
   case measure => simp [intOf]; omega
  ·obtain rfl : k = 8 := by omega
   have h1 := HR.out.arr
   have h2 := HR.out.res
   have hlen : (bys (laid s.words 8)).toArray.size = 32 := by simp [bys_length, HR.out.len]
   have hinf : (Tryz.prog.info? 22).map (·.size) = some (bys (laid s.words 8)).toArray.size := by rw [hlen]; exact Tryz.info32
   have hz0 : zero32.size = (bys (laid s.words 8)).toArray.size := by rw [hlen]; rfl
   have hone := bys_all (laid s.words 8)
   have HFIN : Hid (laid s.words 8 = Sha.bytes s) := laid_all s
   generalize laid s.words 8 = F at h1 hlen hinf hone hz0 HFIN HR
   go_wp2_with (first | refine wpList_load_row rfl 22 (.tmp 3) rfl B rfl 22 _ (0, 0) _ h1 Tryz.underlying22 rfl hinf ?_ | refine wpList_store_rowTo rfl 22 (.tmp 2) (.tmp 38) rfl rfl r (bys F).toArray rfl rfl 22 zero32 h2 hinf hz0 hone ?_)
   exact ret_row rfl rfl r 22 _ (0, 0) _ rfl (setRow_heap _ _ _ _ _ _ h2) Tryz.underlying22 rfl hinf ⟨by rw [HFIN.out], below_row HR.out.below HR.out.ps.1 _⟩
end

section
def zeroH : Array Value := (hrow [] [] (List.replicate 8 0) (List.replicate 64 0) 0).toArray
theorem Tryz.zeroHash (W : World) : (zeroValue 168).run Tryz.prog W = .ok (.agg zeroH) W := by kernel_rfl
theorem Tryz.infoHash : (Tryz.prog.info? 168).map (·.size) = some 73 := by kernel_rfl
theorem hs_zero_of {w : World} {g : Nat} (h : w.heap[g]? = some (.cells zeroH 168 (0, 0))) : Hs w g 168 [] [] [] :=
 ⟨_, _, ⟨h, rfl, rfl⟩, fun h => absurd rfl h, by simp [Tail]⟩
theorem hrow_len (pre post : List Value) (st : List Nat) (blk : List UInt8) (n : Nat) (h1 : st.length = 8) (h2 : blk.length = 64) : (hrow pre post st blk n).length = pre.length + 73 + post.length := by
 simp only [hrow, List.length_append, wds_len, bys_length, List.length_cons, h1, h2]; omega
theorem hrow_oneCell (st : List Nat) (blk : List UInt8) (n : Nat) : ∀ u ∈ hrow [] [] st blk n, u.oneCell' = true := by
 intro u hu
 simp only [hrow, List.nil_append, List.mem_append, List.mem_singleton] at hu
 rcases hu with h | h | h
 ·exact wds_oneCell _ _ h
 ·exact bys_oneCell _ _ h
 ·rw [h]; rfl
theorem Hp.all {w : World} {b : Nat} {ty : TypeId} {pre post : List Value} {st : List Nat} {blk : List UInt8} {n : Nat} (h : Hp w b ty pre post st blk n) : w.rangeAt b pre.length (hrow [] [] st blk n) := fun j v hv => by
 have hj := (List.getElem?_eq_some_iff.1 hv).1
 have e : hrow pre post st blk n = pre ++ (hrow [] [] st blk n ++ post) := by simp [hrow]
 rw [h.cell, e, List.getElem?_append_right (by omega), Nat.add_sub_cancel_left, List.getElem?_append_left hj]
 exact hv
def HasTaken (w : World) (p : Option Addr) (m : List UInt8) : Prop := (p = none ∧ m = []) ∨ ∃ b ty pre post, p = some ⟨b, pre.length, none⟩ ∧ Hs w b ty pre post m
theorem sum_ok (p : Option Addr) (m : List UInt8) (w : World) (hH : HasTaken w p m) (hsum : m.length < 9223372036854775736) :
  Calls Tryz.prog 110 #[.pointer p] w fun e w' => e = .returned (.agg (bys (Sha.full m)).toArray) ∧ Below w.heap.size w w' := by
 have hz := Tryz.zeroB32
 have hz2 := Tryz.zeroHash
 obtain ⟨r, hr⟩ : ∃ r, r = w.heap.size := ⟨_, rfl⟩
 obtain ⟨L, hL⟩ : ∃ r, r = w.heap.size + 1 := ⟨_, rfl⟩
 have hL1 : ((w.alloc (.cells zero32 22)).alloc (.cells zeroH 168)).heap[w.heap.size + 1]? = some (.cells zeroH 168 (0, 0)) := heap_alloc2_new _ _ _
 have hr1 : ((w.alloc (.cells zero32 22)).alloc (.cells zeroH 168)).heap[w.heap.size]? = some (.cells zero32 22 (0, 0)) := heap_alloc2_old _ _ _
 have HP : Hid (r = w.heap.size ∧ L = w.heap.size + 1) := ⟨hr, hL⟩
 have HFU : Hid (Sha.full m = Sha.bytes (Sha.st (m ++ Sha.ending m.length) ((m.length + Sha.size m.length) / 64))) := rfl
 have hn64 : m.length < 18446744073709551616 := by omega
 rcases hH with ⟨rfl, hm⟩ | ⟨b, ty, pre, post, rfl, hH⟩
 case' inl =>
  have c72 : ((w.alloc (.cells zero32 22)).alloc (.cells zeroH 168)).cell? ⟨w.heap.size + 1, 72, none⟩ = some (.int .u64 m.length) := by
   rw [hm, cell_of_row _ _ _ _ _ _ hL1]; rfl
  have H1 : Hid (Hs ((w.alloc (.cells zero32 22)).alloc (.cells zeroH 168)) L 168 [] [] m ∧ ((w.alloc (.cells zero32 22)).alloc (.cells zeroH 168)).heap[r]? = some (.cells zero32 22 (0, 0)) ∧ Below w.heap.size w ((w.alloc (.cells zero32 22)).alloc (.cells zeroH 168))) := by
   rw [hm, hL, hr]
   exact ⟨hs_zero_of hL1, hr1, ((Below.refl _ _).alloc (Nat.le_refl _) _).alloc (by simp) _⟩
  clear hL1 hr1 hm
  go_enter Tryz.func110, Tryz.ntmps110
  go_wp2_with (fail)
  clear c72
  rw [<-hL, <-hr]
  clear hL hr
  generalize (w.alloc _).alloc _ = w2 at H1 ⊢
 case' inr =>
  obtain ⟨o, ho⟩ : ∃ o, o = pre.length := ⟨_, rfl⟩
  rw [<-ho]
  obtain ⟨st, blk, hp, hst, htl⟩ := hH.ex
  have hl1 : (hrow [] [] st blk m.length).length = 73 := by rw [hrow_len _ _ _ _ _ hp.sl hp.bl]; rfl
  have hrg : ((w.alloc (.cells zero32 22)).alloc (.cells zeroH 168)).rangeAt b o (hrow [] [] st blk m.length) := by
   rw [ho]
   exact (hp.kept (((Kept.refl [] w).alloc _).alloc _) (by simp)).all
  have hil : (Tryz.prog.info? 168).map (·.size) = some (hrow [] [] st blk m.length).length := by rw [hl1]; exact Tryz.infoHash
  have hia : (Tryz.prog.info? 168).map (·.size) = some (hrow [] [] st blk m.length).toArray.size := by rw [List.size_toArray, hl1]; exact Tryz.infoHash
  have hza : zeroH.size = (hrow [] [] st blk m.length).toArray.size := by rw [show (hrow [] [] st blk m.length).toArray.size = 73 by rw [List.size_toArray, hl1]]; rfl
  have hoa : (hrow [] [] st blk m.length).toArray.all (·.oneCell') = true := all_oneCell_toArray (hrow_oneCell _ _ _)
  have hp1 : Hp (((w.alloc (.cells zero32 22)).alloc (.cells zeroH 168)).setRow (w.heap.size + 1) (hrow [] [] st blk m.length).toArray) (w.heap.size + 1) 168 [] [] st blk m.length :=
   ⟨setRow_heap _ _ _ _ _ _ hL1, hp.sl, hp.bl⟩
  have c72 : (((w.alloc (.cells zero32 22)).alloc (.cells zeroH 168)).setRow (w.heap.size + 1) (hrow [] [] st blk m.length).toArray).cell? ⟨w.heap.size + 1, 72, none⟩ = some (.int .u64 m.length) := by
   have := hp1.taken
   rw [List.length_nil, Nat.zero_add] at this
   exact this
  have H1 : Hid (Hs (((w.alloc (.cells zero32 22)).alloc (.cells zeroH 168)).setRow (w.heap.size + 1) (hrow [] [] st blk m.length).toArray) L 168 [] [] m ∧ (((w.alloc (.cells zero32 22)).alloc (.cells zeroH 168)).setRow (w.heap.size + 1) (hrow [] [] st blk m.length).toArray).heap[r]? = some (.cells zero32 22 (0, 0)) ∧ Below w.heap.size w (((w.alloc (.cells zero32 22)).alloc (.cells zeroH 168)).setRow (w.heap.size + 1) (hrow [] [] st blk m.length).toArray)) := by
   refine ⟨by rw [hL]; exact ⟨st, blk, hp1, hst, htl⟩, by rw [hr, setRow_other _ _ _ _ (by omega)]; exact hr1, below_row (((Below.refl _ _).alloc (Nat.le_refl _) _).alloc (by simp) _) (by omega) _⟩
  clear hH hp hst htl ho hl1 hr1 hp1
  go_enter Tryz.func110, Tryz.ntmps110
  go_wp2_with (first | refine wpList_load_mid rfl 168 (.tmp 7) rfl b o rfl _ _ hrg Tryz.underlying168 rfl hil ?_ | refine wpList_store_rowTo rfl 168 (.tmp 3) (.tmp 8) rfl rfl (w.heap.size + 1) (hrow [] [] st blk m.length).toArray rfl rfl 168 zeroH hL1 hia hza hoa ?_)
  clear c72 hrg hil hia hza hoa hL1
  generalize World.setRow _ _ _ = w2 at H1 ⊢
  rw [<-hL, <-hr]
  clear hL hr
 all_goals
  clear hz hz2
  refine (ending_ok m.length _ hn64).mono ?_
  rintro e w3 ⟨rfl, hblk, hb3⟩
  have hLr : L < w2.heap.size ∧ r < w2.heap.size := ⟨H1.out.1.lt, (gs H1.out.2.1).1⟩
  have hH3 : Hs w3 L 168 [] [] m := H1.out.1.kept (Kept.of_below hb3) (by simp)
  have hr3 : w3.heap[r]? = some (.cells zero32 22 (0, 0)) := (hb3.block r hLr.2).trans H1.out.2.1
  have hB3 : Below w.heap.size w w3 := H1.out.2.2.trans (hb3.mono H1.out.2.2.size)
  have H3 := (show Hid (_ ∧ _ ∧ _ ∧ _) from ⟨hH3, hr3, hB3, hblk⟩)
  have hGL : Hid (w2.heap.size ≠ L) := by have := hLr.1; show _ ≠ _; omega
  clear H1 hb3 hLr hblk hH3 hr3 hB3
  rw [<-Sha.ending_len]
  go_wp2_with (fail)
  refine (write_ok L 168 [] [] m (Sha.ending m.length) (some ⟨w2.heap.size, 0, none⟩) (Sha.ending m.length).length w3 H3.out.1 H3.out.2.2.2.sl (by rintro _ a ⟨⟩; exact hGL.out) (Nat.le_refl _) (by rw [Sha.ending_len]; have := Sha.size_ge m.length; omega) 0 rfl).mono ?_
  rintro e w4 ⟨rfl, hH4, hk4⟩
  obtain ⟨st4, blk4, hp4, hst4, _⟩ := hH4.ex
  have hne : m ++ Sha.ending m.length ≠ [] := by simp [Sha.ending]
  have hst5 := hst4 hne
  rw [List.length_append, Sha.ending_len] at hst5
  have HFU2 : Hid (Sha.bytes (Sha.st (m ++ Sha.ending m.length) ((m.length + Sha.size m.length) / 64)) = Sha.full m) := HFU.out.symm
  have hq := Sha.st_ok (m ++ Sha.ending m.length) ((m.length + Sha.size m.length) / 64)
  have hrg := hp4.range
  rw [hst5] at hrg
  have hr4 : w4.heap[r]? = some (.cells zero32 22 (0, 0)) := (hk4.block r (gs H3.out.2.1).1 (by have := HP.out; simp; omega)).trans H3.out.2.1
  have hB4 : Below w.heap.size w w4 := H3.out.2.2.1.trans (hk4.below H3.out.2.2.1.size (by have := HP.out; simp; omega))
  clear hH4 hp4 hst4 hst5 hne H3 hk4 HFU
  generalize Sha.st (m ++ Sha.ending m.length) ((m.length + Sha.size m.length) / 64) = q at hq hrg HFU2
  go_wp2_with (refine wpList_load_mid rfl 137 (.tmp 13) rfl L 0 rfl (wds q.words) _ hrg Tryz.underlying137 rfl Tryz.info8 ?_)
  refine (inBytes_ok q hq _).mono ?_
  rintro e w5 ⟨rfl, hb5⟩
  have hr5 : w5.heap[r]? = some (.cells zero32 22 (0, 0)) := (hb5.block r (gs hr4).1).trans hr4
  have hB5 : Below w.heap.size w w5 := hB4.trans (hb5.mono hB4.size)
  have hone := bys_all (Sha.bytes q)
  clear hr4 hB4 hb5 hrg
  go_wp2_with (refine wpList_store_rowTo rfl 22 (.tmp 2) (.tmp 15) rfl rfl r (bys (Sha.bytes q)).toArray rfl rfl 22 zero32 hr5 Tryz.info32 rfl hone ?_)
  exact ret_row rfl rfl r 22 _ (0, 0) _ rfl (setRow_heap _ _ _ _ _ _ hr5) Tryz.underlying22 rfl Tryz.info32 ⟨by rw [HFU2.out], below_row hB5 (by have := HP.out; omega) _⟩
end

section
structure Pc where
 da : Option Addr
 dc : Nat
 ds : List UInt8
def pc0 : Pc := ⟨none, 0, []⟩
instance : Inhabited Pc := ⟨pc0⟩
structure PcAt (w : World) (c : Pc) : Prop where
 sl : Sl w c.da c.ds
 le : c.ds.length <= c.dc
def Pcs (w : World) (ao : Option Addr) (L : List Pc) : Prop :=
 ∀ i, i < L.length -> ∃ b off, ao = some ⟨b, off, none⟩ ∧ w.cell? ⟨b, off + i, none⟩ = some (.slice (L.getD i pc0).da (L.getD i pc0).ds.length (L.getD i pc0).dc) ∧ PcAt w (L.getD i pc0)
def joined (L : List Pc) : List UInt8 := L.flatMap (·.ds)
theorem joined_take (L : List Pc) (k : Nat) (h : k < L.length) : joined (L.take (k + 1)) = joined (L.take k) ++ (L.getD k pc0).ds := by
 rw [List.take_succ_eq_append_getElem h, joined, List.flatMap_append]
 simp [joined, List.getElem?_eq_getElem h]
theorem joined_take_le (L : List Pc) (k : Nat) : (joined (L.take k)).length <= (joined L).length := by
 have : joined L = joined (L.take k) ++ joined (L.drop k) := by rw [joined, joined, joined, <-List.flatMap_append, List.take_append_drop]
 rw [this, List.length_append]; omega
theorem PcAt.below {w w' : World} {c : Pc} (h : PcAt w c) (hb : Below w.heap.size w w') : PcAt w' c := ⟨h.sl.kept (Kept.of_below hb) (by simp), h.le⟩
theorem PcAt.kept {l : List Nat} {w w' : World} {c : Pc} (h : PcAt w c) (hk : Kept l w w') (hn : c.ds ≠ [] -> ∀ a, c.da = some a -> a.block ∉ l) : PcAt w' c := ⟨h.sl.kept hk hn, h.le⟩
structure FuRel (w wr : World) (r g : Nat) (m : List UInt8) : Prop where
 has : Hs wr g 168 [] [] m
 res : wr.heap[r]? = some (.cells zero32 22 (0, 0))
 below : Below w.heap.size w wr
theorem full_ok (ao : Option Addr) (cap : Nat) (L : List Pc) (w : World) (hm : L.length <= 9223372036854775807) (hp : Pcs w ao L) (hsum : (joined L).length < 9223372036854775736) (n : Nat) (hn : L.length = n) :
  Calls Tryz.prog 84 #[.slice ao n cap] w fun e w' => e = .returned (.agg (bys (Sha.full (joined L))).toArray) ∧ Below w.heap.size w w' := by
 have hz := Tryz.zeroB32
 have hz2 := Tryz.zeroHash
 obtain ⟨r, hr⟩ : ∃ r, r = w.heap.size := ⟨_, rfl⟩
 obtain ⟨g, hg⟩ : ∃ r, r = w.heap.size + 1 := ⟨_, rfl⟩
 have HI : Hid (FuRel w ((w.alloc (.cells zero32 22)).alloc (.cells zeroH 168)) r g (joined (L.take 0))) := by
  rw [hr, hg]
  exact ⟨hs_zero_of (heap_alloc2_new _ _ _), heap_alloc2_old _ _ _, ((Below.refl _ _).alloc (Nat.le_refl _) _).alloc (by simp) _⟩
 have HN : Hid (L.length = n) := hn
 have HP : Hid (Pcs w ao L) := hp
 have HG : Hid (r = w.heap.size ∧ g = w.heap.size + 1) := ⟨hr, hg⟩
 rw [hn] at hm
 clear hn hp
 go_enter Tryz.func84, Tryz.ntmps84
 go_wp2
 rw [<-hg, <-hr]
 clear hr hg hz hz2
 generalize (w.alloc _).alloc _ = w1 at HI ⊢
 go_loopw [5, 8] (fun _ i wr => ∃ k : Nat, k <= n ∧ i = .int .i64 k ∧ Hid (FuRel w wr r g (joined (L.take k)))) (fun _ i wr => n - (intOf i).toNat)
 case atStart => exact ⟨0, Nat.zero_le _, rfl, HI⟩
 case round =>
  clear HI
  obtain ⟨k, hk, rfl, HR⟩ := hrel
  by_cases hlt : k < n
  ·obtain ⟨b, off, hao, hc, hpc⟩ := HP.out k (by rw [HN.out]; exact hlt)
   have hbw := World.block_lt_of_cell? _ _ hc
   have ck : wr.cell? ⟨b, off + k, none⟩ = some (.slice (L.getD k pc0).da (L.getD k pc0).ds.length (L.getD k pc0).dc) := (HR.out.below.cell (p := ⟨b, off + k, none⟩) hbw).trans hc
   have HJ : Hid (joined (L.take (k + 1)) = joined (L.take k) ++ (L.getD k pc0).ds) := joined_take L k (by rw [HN.out]; exact hlt)
   have HPC : Hid (PcAt w (L.getD k pc0)) := hpc
   have HJL : Hid ((joined (L.take (k + 1))).length <= (joined L).length) := joined_take_le L (k + 1)
   subst hao
   clear hc hpc hbw
   generalize L.getD k pc0 = c at ck HJ HPC
   obtain ⟨da, dc, ds⟩ := c
   dsimp only at ck HJ
   go_wp2_with (fail)
   have hsl := (HPC.out.below HR.out.below).sl
   refine (write_ok g 168 [] [] (joined (L.take k)) ds da dc wr HR.out.has hsl ?hfar HPC.out.le ?hs 0 rfl).mono ?_
   case hfar =>
    intro hne a ha
    obtain ⟨b', off', e', hb', _⟩ := HPC.out.sl.open hne
    rw [show (Pc.mk da dc ds).da = da from rfl] at e'
    rw [e'] at ha
    cases ha
    have := HG.out
    show b' ≠ g
    omega
   case hs =>
    have h1 := HJL.out
    rw [HJ.out, List.length_append] at h1
    omega
   rintro e w2 ⟨rfl, hH, hkk⟩
   have HS : Hid (FuRel w w2 r g (joined (L.take (k + 1)))) := by
    have := HG.out
    rw [HJ.out]
    exact ⟨hH, (hkk.block r (gs HR.out.res).1 (by simp; omega)).trans HR.out.res, HR.out.below.trans (hkk.below HR.out.below.size (by simp; omega))⟩
   clear hsl hH hkk HR HPC HJ HJL
   go_wp2
   go_roundw
   case rel => exact ⟨k + 1, by omega, by go_num, HS⟩
   case measure => simp [intOf]; omega
  ·obtain rfl : k = n := by omega
   have hall : joined (L.take k) = joined L := by rw [List.take_of_length_le (by rw [HN.out]; exact Nat.le_refl _)]
   rw [hall] at HR
   clear hall
   go_wp2_with (fail)
   refine (sum_ok (some ⟨g, 0, none⟩) (joined L) wr (.inr ⟨g, _, [], [], rfl, HR.out.has⟩) hsum).mono ?_
   rintro e w5 ⟨rfl, hb5⟩
   have hr5 : w5.heap[r]? = some (.cells zero32 22 (0, 0)) := (hb5.block r (gs HR.out.res).1).trans HR.out.res
   have hB5 : Below w.heap.size w w5 := HR.out.below.trans (hb5.mono HR.out.below.size)
   have hone := bys_all (Sha.full (joined L))
   clear hb5 HR
   go_wp2_with (refine wpList_store_rowTo rfl 22 (.tmp 2) (.tmp 15) rfl rfl r (bys (Sha.full (joined L))).toArray rfl rfl 22 zero32 hr5 Tryz.info32 rfl hone ?_)
   exact ret_row rfl rfl r 22 _ (0, 0) _ rfl (setRow_heap _ _ _ _ _ _ hr5) Tryz.underlying22 rfl Tryz.info32 ⟨rfl, below_row hB5 (by have := HG.out; omega) _⟩
end

end Go.Proofs.YtmklodligplbaabGreat
