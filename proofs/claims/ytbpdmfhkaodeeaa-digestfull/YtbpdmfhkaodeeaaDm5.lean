/-
  Contract: freightlaw2.roomy.
-/
import Derived.Test.YtbpdmfhkaodeeaaDm4
namespace Go.Proofs.Ytbpdmfhkaodeeaa
open Go.RowKit
set_option linter.unusedVariables false
set_option linter.unusedSimpArgs false

theorem Try.infoRow : (Try.prog.info? 29).map (fun i => (i.zero, i.size, i.bytes)) = some (some (.slice none 0 0), 1, 24) := by kernel_rfl

theorem own_later {w w' : World} {base : Nat} {e : TypeId} {size : Nat} {v : Value} {n : Nat} {xs : List Value} (h : w.ownsRow base e size v n xs) (hk : Kept [] w w') : w'.ownsRow base e size v n xs := by
  refine ⟨h.1, ?_⟩
  rcases h.2 with h2 | ⟨g, cap, cur, hv, hb, hg, hr⟩
  · exact .inl h2
  · exact .inr ⟨g, cap, cur, hv, hb, (hk.block g (Array.getElem?_eq_some_iff.1 hg).1 (by simp)).trans hg, hr⟩
theorem own_whole {w : World} {base g n : Nat} {e : TypeId} {xs : List Value} (h : w.ownsRow base e 1 (.slice (some ⟨g, 0, none⟩) n n) n xs) :
    w.heap[g]? = some (.cells xs.toArray e (0, 0)) := by
  rcases h.2 with ⟨hv, _⟩ | ⟨g', cap, cur, hv, hb, hg, hn, hx, hs, ht⟩
  · cases hv
  · cases hv
    rw [hg]
    have : cur.toList = xs := by rw [← ht]; rw [List.take_of_length_le]; simp; omega
    rw [← this]

/-- A roomy row. -/
structure Rm where
  g : Nat
  ds : List UInt8
def rm0 : Rm := ⟨0, []⟩
def Rm.val (r : Rm) : Value := .slice (some ⟨r.g, 0, none⟩) r.ds.length (r.ds.length + 160)
def Rm.At (w : World) (r : Rm) : Prop := w.heap[r.g]? = some (.cells (bys (r.ds ++ marks 160)).toArray 5 (0, 0))
def mval (h : Nat) : Value := .slice (some ⟨h, 0, none⟩) 1 1
def MAt (w : World) (h : Nat) : Prop := w.heap[h]? = some (.cells #[.int .u8 99] 5 (0, 0))
def vals (R : List Rm) (H : List Nat) : List Value := R.map Rm.val ++ H.map mval

/-- Roomy rows and marks behind them, all in blocks of their own. -/
structure Rms (w wr : World) (G : Nat) (R : List Rm) (H : List Nat) : Prop where
  rows : ∀ r ∈ R, r.At wr ∧ G < r.g
  asc : R.Pairwise (fun r s => r.g < s.g)
  mks : ∀ h ∈ H, MAt wr h ∧ G < h ∧ ∀ r ∈ R, r.g < h
  geG : w.heap.size ≤ G
  ltG : G < wr.heap.size
  kept : Kept [] w wr
theorem Rm.At.lt {w : World} {r : Rm} (h : r.At w) : r.g < w.heap.size := (Array.getElem?_eq_some_iff.1 h).1
theorem MAt.lt {w : World} {h : Nat} (hh : MAt w h) : h < w.heap.size := (Array.getElem?_eq_some_iff.1 hh).1
/-- What only G, or nothing, was written in. -/
theorem Rms.later {w wr w2 : World} {G : Nat} {R : List Rm} {H : List Nat} (h : Rms w wr G R H) (hk : Kept [G] wr w2) : Rms w w2 G R H :=
  ⟨fun r hr => ⟨(hk.block _ (h.rows r hr).1.lt (by have := (h.rows r hr).2; simp; omega)).trans (h.rows r hr).1, (h.rows r hr).2⟩, h.asc,
    fun x hx => ⟨(hk.block _ (h.mks x hx).1.lt (by have := (h.mks x hx).2.1; simp; omega)).trans (h.mks x hx).1, (h.mks x hx).2⟩, h.geG, Nat.lt_of_lt_of_le h.ltG hk.size,
    h.kept.trans hk (by have := h.geG; simp; omega)⟩
theorem Rms.push {w wr : World} {G : Nat} {R : List Rm} (h : Rms w wr G R []) (r : Rm) (h1 : r.At wr) (h2 : G < r.g) (h3 : ∀ s ∈ R, s.g < r.g) : Rms w wr G (R ++ [r]) [] :=
  ⟨fun s hs => by rcases List.mem_append.1 hs with hs | hs; exact h.rows s hs; rw [List.mem_singleton.1 hs]; exact ⟨h1, h2⟩,
    List.pairwise_append.2 ⟨h.asc, by simp, fun a ha b hb => by rw [List.mem_singleton.1 hb]; exact h3 a ha⟩, by simp, h.geG, h.ltG, h.kept⟩
theorem Rms.mark {w wr : World} {G : Nat} {R : List Rm} {H : List Nat} (h : Rms w wr G R H) (x : Nat) (h1 : MAt wr x) (h2 : G < x) (h3 : ∀ s ∈ R, s.g < x) : Rms w wr G R (H ++ [x]) :=
  ⟨h.rows, h.asc, fun y hy => by rcases List.mem_append.1 hy with hy | hy; exact h.mks y hy; rw [List.mem_singleton.1 hy]; exact ⟨h1, h2, h3⟩, h.geG, h.ltG, h.kept⟩

set_option maxHeartbeats 1000000 in
set_option maxRecDepth 100000 in
theorem roomy_ok (ao : Option Addr) (cap : Nat) (L : List Pc) (w : World) (hp : Pcs w ao L) (hnl : PcN L) (hm : L.length + (joined L).length ≤ 3000000) (n : Nat) (hn : L.length = n) :
    Calls Try.prog 11 #[.slice ao n cap] w fun e w' => ∃ G R H, e = .returned (.slice (some ⟨G, 0, none⟩) n (n + 3)) ∧ Rms w w' G R H ∧ w'.heap[G]? = some (.cells (vals R H).toArray 29 (0, 0)) ∧ R.map Rm.ds = L.map Pc.ds ∧ H.length = 3 := by
  obtain ⟨i1, hi, hz0, hz1, hz2⟩ := info_parts Try.infoRow
  have HP : Hid (Pcs w ao L) := hp
  have HNL : Hid (PcN L) := hnl
  have HN : Hid (L.length = n) := hn
  have hm2 : n ≤ 3000000 := by omega
  have HL : Hid (∀ k, k < n → (L.getD k pc0).ds.length ≤ 3000000) := fun k hk => by
    have h1 := joined_take L k (by omega)
    have h2 := joined_take_le L (k + 1)
    rw [h1, List.length_append] at h2
    omega
  clear hp hnl hm hn
  go_enter Try.func11, Try.ntmps11
  go_wp2_with (refine wpList_make_own _ rfl _ _ 22 rfl w.heap.size 29 i1 (.slice none 0 0) 1 Try.underlying22 hi hz0 hz1 .i64 .i64 _ (n + 3) rfl rfl ?mC ?m2 ?m3 (Nat.le_refl _) ?_)
  case mC => omega
  case m2 => rw [hz2]; omega
  case m3 => unfold maxLen; omega
  intro w1 hown hgrow
  have HR1 : Hid (Rms w w1 w.heap.size [] []) := ⟨by simp, by simp, by simp, Nat.le_refl _, (hown.lt _ rfl).2, (Kept.refl [] w).grown hgrow (by simp)⟩
  have HO1 : Hid (w1.ownsRow w.heap.size 29 1 (.slice (some ⟨w.heap.size, 0, none⟩) 0 (n + 3)) 0 (vals [] [])) := hown
  obtain ⟨G, hG⟩ : ∃ G, G = w.heap.size := ⟨_, rfl⟩
  clear hown hgrow
  go_wp2
  go_loopw [3, 4] (fun v i wr => ∃ k : Nat, k ≤ n ∧ i = .int .i64 k ∧ v = .slice (some ⟨w.heap.size, 0, none⟩) k (n + 3) ∧ Hid (∃ R, Rms w wr w.heap.size R [] ∧ wr.ownsRow w.heap.size 29 1 (.slice (some ⟨w.heap.size, 0, none⟩) k (n + 3)) k (vals R []) ∧ R.map Rm.ds = (L.take k).map Pc.ds)) (fun v i wr => n - (intOf i).toNat)
  case atStart => exact ⟨0, by omega, rfl, rfl, ⟨[], HR1.out, HO1.out, by simp⟩⟩
  case round =>
    clear HR1 HO1
    obtain ⟨k, hk, rfl, rfl, HR⟩ := hrel
    by_cases hlt : k < n
    · obtain ⟨b, off, rfl, hcell, hpc⟩ := HP.out k (by rw [HN.out]; exact hlt)
      obtain ⟨R, hr, hown, hds⟩ := HR.out
      have hc2 := hr.kept.cellOf hcell (by simp)
      have hsl := hpc.sl.kept hr.kept (by simp)
      have hnl := HNL.out k (by rw [HN.out]; exact hlt)
      have hlk := HL.out k hlt
      have HTK : Hid ((L.take (k + 1)).map Pc.ds = (L.take k).map Pc.ds ++ [(L.getD k pc0).ds]) := by
        have hkl : k < L.length := by rw [HN.out]; exact hlt
        show _ = _
        rw [List.take_succ_eq_append_getElem hkl, List.map_append, show L.getD k pc0 = L[k] by simp [List.getElem?_eq_getElem hkl]]; rfl
      generalize L.getD k pc0 = pc at hc2 hsl hnl hlk HTK
      obtain ⟨da, dc, ds⟩ := pc
      dsimp only at hc2 hsl hnl hlk HTK
      have HS : Hid (Sl wr da ds) := hsl
      have HA : Hid (da = none → ds = [] ∧ dc = 0) := hnl
      have HRR : Hid (Rms w wr w.heap.size R []) := hr
      have HOW : Hid (wr.ownsRow w.heap.size 29 1 (.slice (some ⟨w.heap.size, 0, none⟩) k (n + 3)) k (vals R [])) := hown
      have HDS : Hid (R.map Rm.ds = (L.take k).map Pc.ds) := hds
      clear hcell hpc hsl hnl hr hown hds HR
      go_wp2_with (fail)
      refine (roomyRow_ok da dc ds _ HS.out HA.out hlk _ rfl).mono ?_
      rintro e w2 ⟨g, rfl, hg, hat, hb⟩
      have hK2 : Kept [] wr w2 := Kept.of_below hb
      have HR2 : Hid (Rms w w2 w.heap.size (R ++ [⟨g, ds⟩]) []) := (HRR.out.later (hK2.mono (by simp))).push ⟨g, ds⟩ hat (by have := HRR.out.ltG; show _ < g; omega) (fun s hs => by have := (HRR.out.rows s hs).1.lt; show _ < g; omega)
      have hO2 := (own_later HOW.out hK2).alloc (.cells #[.slice (some ⟨g, 0, none⟩) ds.length (ds.length + 160)] 29)
      have hsz := HR2.out.ltG
      clear HRR HOW hat hb hg hK2
      go_wp2_with (at_builtin; refine wpList_append_fits _ rfl _ _ 22 rfl w.heap.size 29 i1 1 Try.underlying22 hi hz1 w.heap.size k (n + 3) _ rfl hO2 ⟨w2.heap.size, 0, none⟩ 1 1 [.slice (some ⟨g, 0, none⟩) ds.length (ds.length + 160)] rfl rfl (one_cells_at _ _ _ _ _ rfl) (by simp [Value.oneCell']) (by omega) ?_)
      intro w3 hown3 hgrow3
      have HR3 : Hid (Rms w w3 w.heap.size (R ++ [⟨g, ds⟩]) []) := HR2.out.later ((((Kept.refl [w.heap.size] w2).alloc _)).grown hgrow3 (by intro k hk hlt; cases hk; simp))
      have HE3 : Hid (∃ R, Rms w w3 w.heap.size R [] ∧ w3.ownsRow w.heap.size 29 1 (.slice (some ⟨w.heap.size, 0, none⟩) (k + 1) (n + 3)) (k + 1) (vals R []) ∧ R.map Rm.ds = (L.take (k + 1)).map Pc.ds) :=
        ⟨_, HR3.out, by rw [show vals (R ++ [⟨g, ds⟩]) [] = vals R [] ++ [.slice (some ⟨g, 0, none⟩) ds.length (ds.length + 160)] by simp [vals, Rm.val]]; exact hown3, by rw [List.map_append, HDS.out, HTK.out]; rfl⟩
      clear hown3 hgrow3 HR3 HR2 hO2 hsz HDS HTK
      go_wp2
      go_roundw
      case rel => exact ⟨k + 1, by omega, by go_num, rfl, HE3⟩
      case measure => simp [intOf]; omega
    · obtain rfl : k = n := by omega
      have e : L.take k = L := List.take_of_length_le (by rw [HN.out]; omega)
      rw [e] at HR
      obtain ⟨R, hr, hown, hds⟩ := HR.out
      have HRR : Hid (∃ H, Rms w wr w.heap.size R H ∧ wr.ownsRow w.heap.size 29 1 (.slice (some ⟨w.heap.size, 0, none⟩) (k + 0) (k + 3)) (k + 0) (vals R H) ∧ H.length = 0) := ⟨[], hr, hown, rfl⟩
      have HDS : Hid (R.map Rm.ds = L.map Pc.ds) := hds
      clear hr hown hds HR e hlt hk HP HNL HN HL
      go_wp2
      go_loopw [3, 6] (fun v i wr => ∃ j : Nat, j ≤ 3 ∧ i = .int .i64 j ∧ v = .slice (some ⟨w.heap.size, 0, none⟩) (k + j) (k + 3) ∧ Hid (∃ H, Rms w wr w.heap.size R H ∧ wr.ownsRow w.heap.size 29 1 (.slice (some ⟨w.heap.size, 0, none⟩) (k + j) (k + 3)) (k + j) (vals R H) ∧ H.length = j)) (fun v i wr => 3 - (intOf i).toNat)
      case atStart => exact ⟨0, by omega, rfl, rfl, HRR⟩
      case round =>
        clear HRR
        obtain ⟨j, hj, rfl, rfl, HR⟩ := hrel
        by_cases hlt : j < 3
        · obtain ⟨H, hr, hown, hH⟩ := HR.out
          have HRR : Hid (Rms w wr w.heap.size R H) := hr
          have HHl : Hid (H.length = j) := hH
          have hO2 := (hown.alloc (.cells #[.int .u8 99] 5)).alloc (.cells #[.slice (some ⟨wr.heap.size, 0, none⟩) 1 1] 29)
          clear hr hown hH HR
          go_wp2_with (at_builtin; refine wpList_append_fits _ rfl _ _ 22 rfl w.heap.size 29 i1 1 Try.underlying22 hi hz1 w.heap.size (k + j) (k + 3) _ rfl hO2 ⟨wr.heap.size + 1, 0, none⟩ 1 1 [.slice (some ⟨wr.heap.size, 0, none⟩) 1 1] rfl rfl (one_cells_at _ _ _ _ _ (by simp)) (by simp [Value.oneCell']) (by omega) ?_)
          intro w3 hown3 hgrow3
          have HE3 : Hid (∃ H, Rms w w3 w.heap.size R H ∧ w3.ownsRow w.heap.size 29 1 (.slice (some ⟨w.heap.size, 0, none⟩) (k + (j + 1)) (k + 3)) (k + (j + 1)) (vals R H) ∧ H.length = j + 1) := by
            have h1 := HRR.out.later (((Kept.refl [w.heap.size] wr).alloc (.cells #[.int .u8 99] 5)).alloc (.cells #[.slice (some ⟨wr.heap.size, 0, none⟩) 1 1] 29))
            have h2 := h1.mark wr.heap.size (heap_alloc2_old wr _ _) HRR.out.ltG (fun s hs => (HRR.out.rows s hs).1.lt)
            refine ⟨H ++ [wr.heap.size], h2.later ((Kept.refl [w.heap.size] _).grown hgrow3 (by intro k hk hlt; cases hk; simp)), ?_, by rw [List.length_append, HHl.out]; rfl⟩
            rw [show vals R (H ++ [wr.heap.size]) = vals R H ++ [.slice (some ⟨wr.heap.size, 0, none⟩) 1 1] by simp [vals, mval]]
            exact hown3
          clear hown3 hgrow3 hO2 HRR HHl
          go_wp2
          go_roundw
          case rel => exact ⟨j + 1, by omega, by go_num, rfl, HE3⟩
          case measure => simp [intOf]; omega
        · obtain rfl : j = 3 := by omega
          go_wp2
          go_ret
          obtain ⟨H, hr, hown, hH⟩ := HR.out
          exact ⟨w.heap.size, R, H, rfl, hr, own_whole hown, HDS.out, hH⟩
end Go.Proofs.Ytbpdmfhkaodeeaa
