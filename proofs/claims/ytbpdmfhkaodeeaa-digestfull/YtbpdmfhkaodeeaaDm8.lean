/-
  Contract: freightlaw2.turned.
-/
import Derived.Test.YtbpdmfhkaodeeaaDm7
import Derived.Laws.OwnMore
namespace Go.Proofs.Ytbpdmfhkaodeeaa
open Go.RowKit
set_option linter.unusedVariables false
set_option linter.unusedSimpArgs false

def xr (ds : List UInt8) : List UInt8 := ds.map (· ^^^ 21)
theorem xr_len (ds : List UInt8) : (xr ds).length = ds.length := by simp [xr]
/-- The first t bytes turned. -/
def xt (t : Nat) (ds : List UInt8) : List UInt8 := xr (ds.take t) ++ ds.drop t
theorem xt_zero (ds : List UInt8) : xt 0 ds = ds := by simp [xt, xr]
theorem xt_all (ds : List UInt8) : xt ds.length ds = xr ds := by simp [xt, xr]
theorem xt_len (t : Nat) (ds : List UInt8) : (xt t ds).length = ds.length := by simp [xt, xr]; omega
theorem xt_at (t : Nat) (ds : List UInt8) (h : t < ds.length) : (xt t ds).getD t 0 = ds.getD t 0 := by
  simp only [xt, List.getD_eq_getElem?_getD]
  rw [List.getElem?_append_right (by simp [xr]; omega), List.getElem?_drop]
  congr 2
  simp [xr]; omega
theorem xt_succ (t : Nat) (ds : List UInt8) (h : t < ds.length) : xt (t + 1) ds = (xt t ds).set t (ds.getD t 0 ^^^ 21) := by
  have hd : ds.drop t = ds[t] :: ds.drop (t + 1) := List.drop_eq_getElem_cons h
  have hg : ds.getD t 0 = ds[t] := by simp [List.getElem?_eq_getElem h]
  rw [xt, xt, hg, List.set_append_right _ _ (by simp [xr]; omega), hd, List.take_succ_eq_append_getElem h]
  have e : t - (xr (List.take t ds)).length = 0 := by simp [xr]; omega
  rw [e, List.set_cons_zero, xr, xr, List.map_append, List.append_assoc]
  rfl
theorem xor21 : ∀ n : Nat, n < 256 → bits .xor .u8 (n : Int) 21 = ((UInt8.ofNat n ^^^ 21).toNat : Int) := by decide +kernel
theorem xor21_of (x : UInt8) : bits .xor .u8 (x.toNat : Int) 21 = ((x ^^^ 21).toNat : Int) := by
  have := xor21 x.toNat (UInt8.toNat_lt x)
  rwa [UInt8.ofNat_toNat] at this

theorem own_keptl {l : List Nat} {w w' : World} {base : Nat} {e : TypeId} {size : Nat} {v : Value} {n : Nat} {xs : List Value} (h : w.ownsRow base e size v n xs) (hk : Kept l w w') (hn : ∀ k, v.ownBlock = some k → k ∉ l) : w'.ownsRow base e size v n xs := by
  refine ⟨h.1, ?_⟩
  rcases h.2 with h2 | ⟨g, cap, cur, rfl, hb, hg, hr⟩
  · exact .inl h2
  · exact .inr ⟨g, cap, cur, rfl, hb, (hk.block g (Array.getElem?_eq_some_iff.1 hg).1 (hn g rfl)).trans hg, hr⟩
theorem own_base {w : World} {base b2 : Nat} {e : TypeId} {size : Nat} {v : Value} {n : Nat} {xs : List Value} (h : w.ownsRow base e size v n xs) (hb : b2 ≤ base) : w.ownsRow b2 e size v n xs := by
  refine ⟨h.1, ?_⟩
  rcases h.2 with h2 | ⟨g, cap, cur, rfl, hb2, hr⟩
  · exact .inl h2
  · exact .inr ⟨g, cap, cur, rfl, by omega, hr⟩
theorem own_types {w : World} {b1 b2 : Nat} {e f : TypeId} {s1 s2 : Nat} {v u : Value} {n m : Nat} {xs ys : List Value} (h1 : w.ownsRow b1 e s1 v n xs) (h2 : w.ownsRow b2 f s2 u m ys) (hne : e ≠ f) (g : Nat) (hg : u.ownBlock = some g) : v.ownBlock ≠ some g := by
  intro hv
  rcases h1.2 with ⟨rfl, _⟩ | ⟨g1, c1, cur1, rfl, _, hg1, _⟩
  · simp [Value.ownBlock] at hv
  · rcases h2.2 with ⟨rfl, _⟩ | ⟨g2, c2, cur2, rfl, _, hg2, _⟩
    · simp [Value.ownBlock] at hg
    · simp [Value.ownBlock] at hv hg
      subst hv hg
      rw [hg1] at hg2
      injection hg2 with hg2
      injection hg2 with _ h _
      exact hne h

/-- A new row with the bytes of a row, nil or not. -/
theorem wpList_append_fresh (w : World) {ops : Array Oper} {rest : List Oper} {o : Oper} {a : Act} {Q : Exit → Act → World → Prop} (hgd : o.guard = none) (s x : Operand)
    (ho : o.op = .call { callee := .builtin .append, args := #[s, x], argTypes := #[29, 29] }) (base g : Nat) (hs : a.eval s = .slice (some ⟨g, 0, none⟩) 0 0)
    (hown : w.ownsRow base 5 1 (.slice (some ⟨g, 0, none⟩) 0 0) 0 []) (da : Option Addr) (m dc : Nat) (ds : List UInt8) (hx : a.eval x = .slice da m dc) (hsl : Sl w da ds) (hm : ds.length = m) (hnl : da = none → ds = [] ∧ dc = 0) (b1 : m ≤ 3000000) (hbase : base ≤ w.heap.size)
    (hK : ∀ g' c' w', w'.ownsRow base 5 1 (.slice (some ⟨g', 0, none⟩) m c') m (bys ds) → w.grownBy w' (some g) → wpList Try.prog ops Q rest (a.put o.dst (.slice (some ⟨g', 0, none⟩) m c')) w') :
    wpList Try.prog ops Q (o :: rest) a w := by
  obtain ⟨i0, hi, hz0, hz1, hz2⟩ := info_parts Try.infoByte
  cases da with
  | none =>
    obtain ⟨rfl, rfl⟩ := hnl rfl
    subst hm
    exact wpList_append_own_none hgd s x 29 ho base 5 i0 1 Try.underlying29 hi _ 0 _ hs hown hx (hK g 0 w hown (World.grownBy.refl w _))
  | some ad =>
    refine wpList_append_own w hgd s x 29 ho base 5 i0 (.int .u8 0) 1 1 Try.underlying29 hi hz0 hz1 hz2 rfl (by decide) _ 0 [] hs hown ad m dc (bys ds) hx (by rw [bys_length, hm, Nat.mul_one]) (src_of hsl) (bys_oneCell _) (by unfold maxLen; omega) (by omega) hbase ?_
    intro v' w' h1 h2 h3
    rw [Nat.zero_add, List.nil_append] at h1
    obtain ⟨g', c', hv, _⟩ := own_sl h1 (fun e => by have := (h3.1 e).1; cases this)
    subst hv
    exact hK g' c' w' h1 h2

/-- A piece in a row of its own. -/
def QAt (w wr : World) (c : Pc) : Prop := ∃ g, c.da = some ⟨g, 0, none⟩ ∧ wr.ownsRow w.heap.size 5 1 (.slice (some ⟨g, 0, none⟩) c.ds.length c.dc) c.ds.length (bys c.ds)
def pv (c : Pc) : Value := .slice c.da c.ds.length c.dc
structure TRel (w wr : World) (L : List Pc) (k : Nat) (v : Value) (Q : List Pc) : Prop where
  own : wr.ownsRow w.heap.size 29 1 v k (Q.map pv)
  dss : Q.map Pc.ds = (L.take k).map (fun c => xr c.ds)
  at_ : ∀ c ∈ Q, QAt w wr c
  kept : Kept [] w wr
theorem TRel.later {w wr w2 : World} {L : List Pc} {k : Nat} {v : Value} {Q : List Pc} (h : TRel w wr L k v Q) {l : List Nat} (hk : Kept l wr w2) (hl : ∀ i ∈ l, wr.heap.size ≤ i) : TRel w w2 L k v Q :=
  ⟨own_keptl h.own hk (fun g hg hm => by have := (h.own.lt g hg).2; have := hl g hm; omega), h.dss,
    fun c hc => by
      obtain ⟨g, hg, ho⟩ := h.at_ c hc
      exact ⟨g, hg, own_keptl ho hk (fun k hk' hm => by have := (ho.lt k hk').2; have := hl k hm; omega)⟩,
    h.kept.trans hk (fun i hi hlt => by have := hl i hi; have := h.kept.size; omega)⟩

set_option maxHeartbeats 1000000 in
set_option maxRecDepth 100000 in
theorem turned2_ok (ao : Option Addr) (cap : Nat) (L : List Pc) (w : World) (hp : Pcs w ao L) (hnl : PcN L) (hm : L.length + (joined L).length ≤ 3000000) (n : Nat) (hn : L.length = n) :
    Calls Try.prog 16 #[.slice ao n cap] w fun e w' => ∃ v Q, e = .returned v ∧ TRel w w' L n v Q := by
  obtain ⟨i1, hi, hz0, hz1, hz2⟩ := info_parts Try.infoRow
  have HP : Hid (Pcs w ao L) := hp
  have HNL : Hid (PcN L) := hnl
  have HN : Hid (L.length = n) := hn
  have hm2 : n ≤ 3000000 := by omega
  have HL : Hid (∀ k, k < n → (L.getD k pc0).ds.length ≤ 3000000) := fun k hk => by
    have h1 := joined_take L k (by omega)
    have h2 := joined_take_le L (k + 1)
    rw [h1, List.length_append] at h2
    omega
  clear hp hnl hm hn
  go_enter Try.func16, Try.ntmps16
  go_wp2
  go_loopw [3, 4, 5, 6] (fun v i _ _ wr => ∃ k : Nat, k ≤ n ∧ i = .int .i64 k ∧ Hid (∃ Q, TRel w wr L k v Q)) (fun v i _ _ wr => n - (intOf i).toNat)
  case atStart => exact ⟨0, by omega, rfl, [], World.ownsRow_nil _ _ _ _, by simp, by simp, Kept.refl _ _⟩
  case round =>
    obtain ⟨k, hk, rfl, HR⟩ := hrel
    by_cases hlt : k < n
    · obtain ⟨b, off, rfl, hcell, hpc⟩ := HP.out k (by rw [HN.out]; exact hlt)
      obtain ⟨Q, hr⟩ := HR.out
      have hc2 := hr.kept.cellOf hcell (by simp)
      have hsl := hpc.sl.kept hr.kept (by simp)
      have hnl := HNL.out k (by rw [HN.out]; exact hlt)
      have hlk := HL.out k hlt
      have HTK : Hid ((L.take (k + 1)).map (fun c => xr c.ds) = (L.take k).map (fun c => xr c.ds) ++ [xr (L.getD k pc0).ds]) := by
        have hkl : k < L.length := by rw [HN.out]; exact hlt
        show _ = _
        rw [List.take_succ_eq_append_getElem hkl, List.map_append, show L.getD k pc0 = L[k] by simp [List.getElem?_eq_getElem hkl]]; rfl
      generalize L.getD k pc0 = pc at hc2 hsl hnl hlk HTK
      obtain ⟨da, dc, ds⟩ := pc
      dsimp only at hc2 hsl hnl hlk HTK
      have HS : Hid (Sl (wr.alloc (.cells #[] 5)) da ds) := hsl.kept ((Kept.refl [] wr).alloc _) (by simp)
      have HA : Hid (da = none → ds = [] ∧ dc = 0) := hnl
      have HRR : Hid (TRel w wr L k u3 Q) := hr
      have hO0 : (wr.alloc (.cells #[] 5)).ownsRow wr.heap.size 5 1 (.slice (some ⟨wr.heap.size, 0, none⟩) 0 0) 0 [] := World.ownsRow_made wr #[] 0 (Nat.le_refl _) (by decide) rfl
      clear hcell hpc hsl hnl hr HR
      obtain ⟨d, hd⟩ : ∃ d, d = ds.length := ⟨_, rfl⟩
      rw [← hd] at hc2 hlk
      have HD : Hid (ds.length = d) := hd.symm
      clear hd
      have hc3 := ((Kept.refl [] wr).alloc (.cells #[] 5)).cellOf hc2 (by simp)
      go_wp2_with (at_builtin; refine wpList_append_fresh _ rfl _ _ rfl wr.heap.size wr.heap.size rfl hO0 da d dc ds rfl HS.out HD.out HA.out hlk (by simp) ?_)
      intro g c w2 hown2 hgrow2
      have HK2 : Hid (Kept [wr.heap.size] wr w2) := ((Kept.refl [wr.heap.size] wr).alloc _).grown hgrow2 (by intro k hk hlt; cases hk; simp)
      have HR2 : Hid (TRel w w2 L k u3 Q) := HRR.out.later HK2.out (by simp)
      have HG : Hid (wr.heap.size ≤ g ∧ g < w2.heap.size) := hown2.lt g rfl
      have HO2 : Hid (w2.ownsRow wr.heap.size 5 1 (.slice (some ⟨g, 0, none⟩) d c) d (bys (xt 0 ds))) := by rw [xt_zero]; exact hown2
      clear hown2 hgrow2 hO0 HS HA
      have HKg : Hid (Kept [wr.heap.size, g] wr w2) := HK2.out.mono (by simp)
      clear HR2 HK2 hc2 hc3
      go_wp2
      obtain ⟨W0, rfl⟩ : ∃ W0, W0 = wr := ⟨_, rfl⟩
      go_loopw [6] (fun j W => ∃ t : Nat, t ≤ d ∧ j = .int .i64 t ∧ Hid (W.ownsRow W0.heap.size 5 1 (.slice (some ⟨g, 0, none⟩) d c) d (bys (xt t ds))) ∧ Hid (Kept [W0.heap.size, g] W0 W)) (fun j W => d - (intOf j).toNat)
      case atStart => exact ⟨0, by omega, rfl, HO2, HKg⟩
      case round =>
        clear HO2 HKg
        obtain ⟨t, ht, rfl, HO, HK⟩ := hrel
        by_cases hlt2 : t < d
        · have hct := HO.out.cellAt t (by omega)
          rw [bys_at (by rw [xt_len, HD.out]; exact hlt2), xt_at t ds (by rw [HD.out]; exact hlt2)] at hct
          have hfr := HO.out.frozenAt t
          have hxr := xor21_of (ds.getD t 0)
          have HO3 : Hid (∀ W : World, W = wr → (W.setCell ⟨g, t, none⟩ (.int .u8 (ds.getD t 0 ^^^ 21).toNat)).ownsRow W0.heap.size 5 1 (.slice (some ⟨g, 0, none⟩) d c) d (bys (xt (t + 1) ds))) := by
            rintro W rfl
            rw [xt_succ t ds (by rw [HD.out]; exact hlt2), ← bys_set]
            exact (HO.out.stored t _).1
          generalize (ds.getD t 0 ^^^ 21).toNat = y at hxr HO3
          generalize (ds.getD t 0).toNat = x at hct hxr
          have HK3 : Hid (∀ v, Kept [W0.heap.size, g] W0 (wr.setCell ⟨g, t, none⟩ v)) := fun v => HK.out.setCell (by simp) v
          clear HO HK
          go_wp2
          go_roundw
          case rel => exact ⟨t + 1, by omega, by go_num, HO3.out _ rfl, HK3.out _⟩
          case measure => simp [intOf]; omega
        · obtain rfl : t = d := by omega
          have HRt : Hid (TRel w wr L k u3 Q) := HRR.out.later HK.out (by simp; exact HG.out.1)
          have HOx : Hid (wr.ownsRow w.heap.size 5 1 (.slice (some ⟨g, 0, none⟩) t c) t (bys (xr ds))) := by
            have h := HO.out
            rw [← HD.out, xt_all, HD.out] at h
            exact own_base h HRR.out.kept.size
          have hO5 := HRt.out.own.alloc (.cells #[.slice (some ⟨g, 0, none⟩) t c] 29)
          have hsz : w.heap.size ≤ wr.heap.size := HRt.out.kept.size
          clear HO HK HRR
          go_wp2_with (at_builtin; refine wpList_append_own _ rfl _ _ 22 rfl w.heap.size 29 i1 (.slice none 0 0) 1 24 Try.underlying22 hi hz0 hz1 hz2 rfl (by decide) _ _ _ rfl hO5 ⟨wr.heap.size, 0, none⟩ 1 1 [.slice (some ⟨g, 0, none⟩) t c] rfl rfl (one_cells_at _ _ _ _ _ rfl) (by simp [Value.oneCell']) ?c3 ?c4 ?c5 ?_)
          case c3 => unfold maxLen; omega
          case c4 => omega
          case c5 => simp; omega
          intro v' w5 hown5 hgrow5 hnn
          have HR5 : Hid (∃ Q, TRel w w5 L (k + 1) v' Q) := by
            refine ⟨Q ++ [⟨some ⟨g, 0, none⟩, c, xr ds⟩], ?_, ?_, ?_, ?_⟩
            · rw [List.map_append, show [(⟨some ⟨g, 0, none⟩, c, xr ds⟩ : Pc)].map pv = [.slice (some ⟨g, 0, none⟩) t c] by simp [pv, xr_len, HD.out]]
              exact hown5
            · rw [List.map_append, HRt.out.dss, HTK.out]; rfl
            · intro x hx
              rcases List.mem_append.1 hx with hx | hx
              · obtain ⟨gx, h1, h2⟩ := HRt.out.at_ x hx
                exact ⟨gx, h1, (h2.alloc _).kept hgrow5 (.inr (fun e => own_types HRt.out.own h2 (by decide) gx rfl (e ▸ rfl)))⟩
              · rw [List.mem_singleton.1 hx]
                refine ⟨g, rfl, ?_⟩
                show w5.ownsRow w.heap.size 5 1 (.slice (some ⟨g, 0, none⟩) (xr ds).length c) (xr ds).length (bys (xr ds))
                rw [xr_len, HD.out]
                exact (HOx.out.alloc _).kept hgrow5 (.inr (fun e => own_types HRt.out.own HOx.out (by decide) g rfl (e ▸ rfl)))
            · exact (HRt.out.kept.alloc _).grown hgrow5 (fun i hi hlt => by have := (HRt.out.own.lt i hi).1; omega)
          clear hown5 hgrow5 hnn hO5 HRt HOx HTK
          go_wp2
          go_roundw
          case rel => exact ⟨k + 1, by omega, by go_num, HR5⟩
          case measure => simp [intOf]; omega
    · obtain rfl : k = n := by omega
      go_wp2
      go_ret
      obtain ⟨Q, h⟩ := HR.out
      exact ⟨_, Q, rfl, h⟩
end Go.Proofs.Ytbpdmfhkaodeeaa
