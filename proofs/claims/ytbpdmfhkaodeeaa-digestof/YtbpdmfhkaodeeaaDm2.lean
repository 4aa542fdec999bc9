/-
  Contract: freightlaw2.joined.
-/
import Derived.Test.YtbpdmfhkaodeeaaDf1
import Derived.Test.YtbpdmfhkaodeeaaDr2
import Derived.Laws.AppendOwnNone
namespace Go.Proofs.Ytbpdmfhkaodeeaa
open Go.RowKit
set_option linter.unusedVariables false
set_option linter.unusedSimpArgs false

/-- A piece at no address is nil. -/
def PcN (L : List Pc) : Prop := ∀ i, i < L.length → (L.getD i pc0).da = none → (L.getD i pc0).ds = [] ∧ (L.getD i pc0).dc = 0

theorem Grow.more {w wr w1 : World} {v v' : Value} {ys zs : List UInt8} (h : Grow w wr v ys)
    (hown : w1.ownsRow w.heap.size 5 1 v' (ys.length + zs.length) (bys ys ++ bys zs)) (hgrow : wr.grownBy w1 v.ownBlock) : Grow w w1 v' (ys ++ zs) := by
  refine ⟨?_, h.kept.grown hgrow (fun k hk hlt => by have := (h.own.lt k hk).1; omega)⟩
  rw [← bys_append] at hown
  simpa using hown
theorem src_of {w : World} {ad : Addr} {m : List UInt8} (hs : Sl w (some ad) m) : ∀ j u, (bys m)[j]? = some u → w.cell? (ad.add j) = some u := by
  by_cases h0 : m = []
  · subst h0
    intro j u hu
    simp [bys] at hu
  · obtain ⟨b, off, e', hb, hc⟩ := hs.open h0
    cases e'
    exact Sl.cells hc

set_option maxHeartbeats 800000 in
set_option maxRecDepth 100000 in
theorem joined_ok (ao : Option Addr) (cap : Nat) (L : List Pc) (w : World) (hp : Pcs w ao L) (hnl : PcN L) (hm : L.length ≤ 9223372036854775807) (hs : (joined L).length ≤ 3000000) (n : Nat) (hn : L.length = n) :
    Calls Try.prog 14 #[.slice ao n cap] w fun e w' => ∃ g c, e = .returned (.slice (some ⟨g, 0, none⟩) (joined L).length c) ∧ (joined L).length ≤ c ∧ Sl w' (some ⟨g, 0, none⟩) (joined L) ∧ Below w.heap.size w w' := by
  obtain ⟨i0, hi, hz0, hz1, hz2⟩ := info_parts Try.infoByte
  have HP : Hid (Pcs w ao L) := hp
  have HNL : Hid (PcN L) := hnl
  have HS : Hid (∀ k, (joined (L.take k)).length ≤ 3000000) := fun k => Nat.le_trans (joined_take_le L k) hs
  have HN : Hid (L.length = n) := hn
  have hn2 : n ≤ 9223372036854775807 := by omega
  have H0 : Hid (Grow w (w.alloc (.cells #[] 5)) (.slice (some ⟨w.heap.size, 0, none⟩) 0 0) (joined (L.take 0))) := ⟨World.ownsRow_made w #[] 0 (Nat.le_refl _) (by decide) rfl, (Kept.refl [] w).alloc _⟩
  clear hp hnl hs hn hm
  go_enter Try.func14, Try.ntmps14
  go_wp2
  generalize World.alloc _ _ = w1 at H0 ⊢
  go_loopw [3, 4] (fun v i wr => ∃ k g c : Nat, k ≤ n ∧ i = .int .i64 k ∧ v = .slice (some ⟨g, 0, none⟩) (joined (L.take k)).length c ∧ Hid (Grow w wr (.slice (some ⟨g, 0, none⟩) (joined (L.take k)).length c) (joined (L.take k)))) (fun v i wr => n - (intOf i).toNat)
  case atStart => exact ⟨0, w.heap.size, 0, by omega, rfl, rfl, H0⟩
  case round =>
    clear H0
    obtain ⟨k, g, c, hk, rfl, rfl, HG⟩ := hrel
    by_cases hlt : k < n
    · obtain ⟨b, off, rfl, hcell, hpc⟩ := HP.out k (by rw [HN.out]; exact hlt)
      have hJ := joined_take L k (by rw [HN.out]; exact hlt)
      have hl1 := HS.out (k + 1)
      have hl0 := HS.out k
      have hc2 := HG.out.kept.cellOf hcell (by simp)
      have hsl := hpc.sl.kept HG.out.kept (by simp)
      have HNk : Hid ((L.getD k pc0).da = none → (L.getD k pc0).ds = [] ∧ (L.getD k pc0).dc = 0) := HNL.out k (by rw [HN.out]; exact hlt)
      generalize L.getD k pc0 = pc at hc2 hsl HNk hJ
      obtain ⟨da, dc, ds⟩ := pc
      dsimp only at hc2 hsl hJ
      have HJ : Hid (joined (L.take (k + 1)) = joined (L.take k) ++ ds) := hJ
      clear hcell hpc hJ
      cases da with
      | none =>
        obtain ⟨h1, h2⟩ := HNk.out rfl
        dsimp only at h1 h2
        subst h1 h2
        have HG2 : Hid (Grow w wr (.slice (some ⟨g, 0, none⟩) (joined (L.take (k + 1))).length c) (joined (L.take (k + 1)))) := by
          have e := HJ.out
          rw [List.append_nil] at e
          rw [e]; exact HG.out
        have e : (joined (L.take (k + 1))).length = (joined (L.take k)).length := by rw [HJ.out]; simp
        rw [e] at HG2
        go_wp2_with (at_builtin; refine wpList_append_own_none rfl _ _ 29 rfl w.heap.size 5 i0 1 Try.underlying29 hi _ _ _ rfl HG.out.own rfl ?_)
        go_roundw
        case rel => exact ⟨k + 1, g, c, by omega, by go_num, by rw [e], by rw [e]; exact HG2⟩
        case measure => simp [intOf]; omega
      | some ad =>
        have hl2 : (joined (L.take k)).length + ds.length ≤ 3000000 := by rw [HJ.out, List.length_append] at hl1; exact hl1
        go_wp2_with (at_builtin; refine wpList_append_own _ rfl _ _ 29 rfl w.heap.size 5 i0 (.int .u8 0) 1 1 Try.underlying29 hi hz0 hz1 hz2 rfl (by decide) _ _ _ rfl HG.out.own ad ds.length dc (bys ds) rfl (by rw [bys_length, Nat.mul_one]) (src_of hsl) (bys_oneCell _) ?c3 ?c4 ?c5 ?_)
        case c3 => unfold maxLen; omega
        case c4 => omega
        case c5 => exact HG.out.kept.size
        intro v' w2 hown2 hgrow hnn
        have HR2 : Hid (Grow w w2 v' (joined (L.take (k + 1)))) := by rw [HJ.out]; exact HG.out.more hown2 hgrow
        obtain ⟨g2, c2, hv2, _⟩ := HR2.out.shape hnn
        rw [hv2] at HR2 ⊢
        clear hown2 hgrow hnn HG hv2
        go_wp2
        go_roundw
        case rel => exact ⟨k + 1, g2, c2, by omega, by go_num, rfl, HR2⟩
        case measure => simp [intOf]; omega
    · obtain rfl : k = n := by omega
      have e : L.take k = L := List.take_of_length_le (by rw [HN.out]; omega)
      rw [e] at HG ⊢
      go_wp2
      go_ret
      obtain ⟨g', c', hv, h1, h2, h3, h4⟩ := HG.out.shape (by simp)
      cases hv
      exact ⟨_, _, rfl, h3, h4, HG.out.kept.below (Nat.le_refl _) (by simp)⟩
end Go.Proofs.Ytbpdmfhkaodeeaa
