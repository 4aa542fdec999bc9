import Derived.Test.YtmklodligplbaabGreatD8vo
open Go.RowKit
set_option linter.unusedVariables false
set_option linter.unusedSimpArgs false
set_option maxRecDepth 100000
set_option maxHeartbeats 0
namespace Go.Proofs.YtmklodligplbaabGreat
section
open Dlt
theorem wpList_appendRun8 {ops : Array Oper} {rest : List Oper} {o : Oper} {a : Act} {w : World} {Q : Exit -> Act -> World -> Prop} (hgd : o.guard = none) (d s : Operand) (t : TypeId)
  (ho : o.op = .call { callee := .builtin .append, args := #[d, s], argTypes := #[t, t] }) (v u : Value) (hd : a.eval d = v) (hs : a.eval s = u) {v' : Value} {w' : World}
  (hr : (Builtin.append_ #[t, t] o.type #[v, u]).run Tryz.prog w = .ok v' w') (h : wpList Tryz.prog ops Q rest (a.put o.dst v') w') : wpList Tryz.prog ops Q (o :: rest) a w :=
 wpList_plain hgd fun _ hK => wp_append_run8 w d s t ho v u hd hs hr (hK _ _ h)
theorem Tryz.infoRun : (Tryz.prog.info? 116).map (·.size) = some 2 := by kernel_rfl
theorem Tryz.zeroRun (W : World) : (zeroValue 116).run Tryz.prog W = .ok (.agg #[.int .i64 0, .int .i64 0]) W := by kernel_rfl
theorem runLength_ok (f c z : Nat) (w : World) (h : c * z <= 4611686018427387904) :
  Calls Tryz.prog 70 #[.agg #[.int .i64 f, .int .i64 c], .int .i64 z] w fun e w' => e = .returned (.int .i64 (c * z : Nat)) ∧ Kept [] w w' := by
 have HK := hide ((Kept.refl [] w).alloc (.cells #[.int .i64 f, .int .i64 c] 116))
 have c1 : (w.alloc (.cells #[.int .i64 f, .int .i64 c] 116)).cell? ⟨w.heap.size, 1, none⟩ = some (.int .i64 c) := by rw [cell_of_row _ _ _ _ _ _ (heap_new w _)]; rfl
 have hmul : IntKind.i64.wrap ((c : Int) * (z : Int)) = ((c * z : Nat) : Int) := by
  have e : ((c : Int) * (z : Int)) = ((c * z : Nat) : Int) := by simp
  rw [e]
  generalize c * z = m at h
  simp [IntKind.wrap, IntKind.bits, IntKind.signed]; omega
 clear h
 go_enter Tryz.func70, Tryz.ntmps70
 go_wp2
 go_ret
 exact ⟨rfl, HK.out⟩
theorem InsAt.blk {w0 w : World} {v : Value} {L : List Stp} (h : InsAt w0 w v L) {g : Nat} (hg : v.ownBlock = some g) : g < w.heap.size := by
 obtain ⟨vals, h1, _⟩ := h.out
 exact (own_blk h1 hg).2.1
theorem instructions_ok (s : Sig) (Z : Nat) (ao : Option Addr) (n cap : Nat) (to : Option Addr) (tn tc : Nat) (ys : List UInt8) (w : World) (hI : SigIn w s ao n cap) (hn : n <= 1000000) (hz : s.size = (Z : Nat)) (hZ1 : 1 <= Z) (hZ2 : Z <= 4096) (hyl : ys.length = tn) (hyc : tn <= tc) (hys : Sl w to ys) (hym : tn <= 1000000) :
  Calls Tryz.prog 29 #[.agg (s.cells (.slice ao n cap)).toArray, .slice to tn tc] w fun e w' => ∃ v w0, e = .returned v ∧ InsAt w0 w' v (ins s.width Z s.blocks [] ys) ∧ Kept [] w w0 ∧ Kept [] w0 w' := by
 have hzf := Tryz.zeroFd
 have hA := SigAt.new w s (.slice ao n cap)
 have k1 := ka w (.cells (s.cells (.slice ao n cap)).toArray 26)
 have hrg := hA.range
 have hil := Tryz.infoSig s (.slice ao n cap)
 have hfo := finderOf_ok s ao n cap _ (hI.kept k1) hn
 rw [hz] at hfo
 have HIN := hide (ai hI (ai hyl (ai hyc (ai hys k1))))
 clear hA k1 hI hyl hyc hys
 go_enter Tryz.func29, Tryz.ntmps29
 go_upto_region 2 with (first
  | refine wpList_load_mid rfl 26 (.tmp 2) rfl w.heap.size 0 rfl (s.cells (.slice ao n cap)) _ hrg Tryz.underlying26 rfl hil ?_
  | (go_at_call 67; refine hfo.mono ?_; clear hfo; rintro e w2 ⟨M, rfl, ⟨KI, VI, hFm⟩, hk2⟩; have HFM := hide (ai hFm hk2); have hnf := heap_new w2 (.cells (fdC 0 0 none 0 0 none).toArray 109); clear hFm hk2 hrg hil)
  | refine wpList_store_rowTo rfl 109 (.tmp 5) (.tmp 12) rfl rfl w2.heap.size (fdC s.width Z ao n cap (some M)).toArray rfl rfl 109 (fdC 0 0 none 0 0 none).toArray hnf (Tryz.infoFdA _ _ _ _ _ _) rfl (fd_all _ _ _ _ _ _) ?_)
 have k4 : Kept [] w2 ((w2.alloc (.cells (fdC 0 0 none 0 0 none).toArray 109)).setRow w2.heap.size (fdC s.width Z ao n cap (some M)).toArray) := ((Kept.refl [] _).alloc _).tr (kept_row _ _ _)
 have hF0 : FdAt ((w2.alloc (.cells (fdC 0 0 none 0 0 none).toArray 109)).setRow w2.heap.size (fdC s.width Z ao n cap (some M)).toArray) w2.heap.size s.width Z ao n cap M := ⟨setRow_heap _ _ _ _ _ _ hnf⟩
 have HS : Hid (Kept [] w ((w2.alloc (.cells (fdC 0 0 none 0 0 none).toArray 109)).setRow w2.heap.size (fdC s.width Z ao n cap (some M)).toArray) ∧ Fm ((w2.alloc (.cells (fdC 0 0 none 0 0 none).toArray 109)).setRow w2.heap.size (fdC s.width Z ao n cap (some M)).toArray) (w.alloc (.cells (s.cells (.slice ao n cap)).toArray 26)).heap.size M s.blocks n KI VI ∧ FdAt ((w2.alloc (.cells (fdC 0 0 none 0 0 none).toArray 109)).setRow w2.heap.size (fdC s.width Z ao n cap (some M)).toArray) w2.heap.size s.width Z ao n cap M) := ⟨((HIN.out.2.2.2.2.tr HFM.out.2).tr k4), HFM.out.1.kept k4, hF0⟩
 clear k4 hF0 hnf HFM
 generalize (w2.alloc (.cells (fdC 0 0 none 0 0 none).toArray 109)).setRow w2.heap.size (fdC s.width Z ao n cap (some M)).toArray = w3 at HS ⊢
 generalize w2.heap.size = Fb at HS ⊢
 generalize w.heap.size = G
 clear w2 hzf
 go_wp2
 go_loopw [6, 7] (fun x y wr => ∃ (lo : Option Addr) (ln lc : Nat) (acc : List Stp) (po : Option Addr) (pn pc : Nat) (zs : List UInt8), x = .slice lo ln lc ∧ y = .slice po pn pc ∧ ln <= 2050 ∧ pn <= 1000000 ∧ Hid (acc.length = ln ∧ InsAt w3 wr (.slice lo ln lc) acc ∧ Kept [] w3 wr ∧ zs.length = pn ∧ pn <= pc ∧ Sl w3 po zs ∧ ins s.width Z s.blocks [] ys = ins s.width Z s.blocks acc zs)) (fun x y wr => (match y with | .slice _ n _ => n | _ => 0))
 case atStart => exact ⟨none, 0, 0, [], to, tn, tc, ys, rfl, rfl, by omega, hym, rfl, InsAt.nil _ _, Kept.refl _ _, HIN.out.2.1, HIN.out.2.2.1, HIN.out.2.2.2.1.kept HS.out.1 (by simp), rfl⟩
 case round =>
  obtain ⟨lo, ln, lc, acc, po, pn, pc, zs, rfl, rfl, hln, hpn, HP⟩ := hrel
  by_cases hp0 : pn = 0
  ·subst hp0
   have HR : Hid (ins s.width Z s.blocks [] ys = acc) := by
    show _ = _
    rw [HP.out.2.2.2.2.2.2]
    exact ins_stop (.inl (List.length_eq_zero_iff.1 HP.out.2.2.2.1))
   go_wp2
   go_ret
   exact ⟨_, w3, rfl, by rw [HR.out]; exact HP.out.2.1, HS.out.1, HP.out.2.2.1⟩
  ·have hp1 : 0 < pn := by omega
   by_cases hl : 2048 < ln
   ·have HR : Hid (ins s.width Z s.blocks [] ys = acc) := by
     show _ = _
     rw [HP.out.2.2.2.2.2.2]
     exact ins_stop (.inr (by rw [HP.out.1]; exact hl))
    go_wp2
    go_ret
    exact ⟨_, w3, rfl, by rw [HR.out]; exact HP.out.2.1, HS.out.1, HP.out.2.2.1⟩
   ·have hl2 : ln <= 2048 := by omega
    have hFr := HS.out.2.2.kept HP.out.2.2.1 (by simp)
    have hrg := hFr.range
    have hnx := next_ok s.width Z ao n cap M s.blocks po pn pc zs wr _ KI VI HIN.out.1.len hn HIN.out.1.le (HIN.out.1.at_.kept (HS.out.1.tr HP.out.2.2.1) (by simp)) (HS.out.2.1.kept HP.out.2.2.1) HP.out.2.2.2.1 HP.out.2.2.2.2.1 (HP.out.2.2.2.2.2.1.kept HP.out.2.2.1 (by simp)) hpn hZ1 hZ2
    have HNL := hide (nextI_le s.width Z s.blocks zs)
    have HGO := hide (fun h : zs.drop (nextI s.width Z s.blocks zs).1 ≠ [] => ins_go (acc := acc) (wd := s.width) (L := s.blocks) hZ1 (by rintro rfl; simp at h) (by rw [HP.out.1]; exact hl2) h)
    have HNC := hide (fun h : (nextI s.width Z s.blocks zs).1 < zs.length => next_cnt (wd := s.width) (L := s.blocks) hZ1 h)
    have HEN := hide (fun h : zs.drop (nextI s.width Z s.blocks zs).1 = [] => ins_end (acc := acc) (wd := s.width) (Z := Z) (L := s.blocks) (by rintro rfl; have := HP.out.2.2.2.1; simp at this; omega) (by rw [HP.out.1]; exact hl2) h)
    have HF4 := hide hFr
    clear hFr
    obtain ⟨a, f, haf⟩ : ∃ a f, nextI s.width Z s.blocks zs = (a, f) := ⟨_, _, rfl⟩
    rw [haf] at hnx HNL HGO HNC HEN
    simp only at hnx HNL HGO HNC HEN
    have han : a <= pn := by have := HNL.out; rw [HP.out.2.2.2.1] at this; exact this
    clear haf HNL
    have hilF := Tryz.infoFd
    go_upto_region 6 with (first
     | refine wpList_load_mid rfl 109 (.tmp 5) rfl Fb 0 rfl (fdC s.width Z ao n cap (some M)) _ hrg Tryz.underlying109 rfl hilF ?_
     | (go_at_call 68; refine hnx.mono ?_; clear hnx; rintro e w4 ⟨rfl, hk4⟩; have HK4 := hide hk4; clear hk4 hrg))
    by_cases ha : a = 0
    ·have HT : Hid (InsAt w3 w4 (.slice lo ln lc) acc ∧ Kept [] w3 w4 ∧ acc.length = ln ∧ accL acc zs a = acc) := ⟨HP.out.2.1.kept HK4.out, HP.out.2.2.1.tr HK4.out, HP.out.1, by unfold accL; rw [if_neg (by omega)]⟩
     have hl3 : ln <= 2049 := by omega
     subst ha
     simp only [List.drop_zero] at HGO HNC HEN
     go_upto_region 8 with (fail)
     have HSD := hide HP.out.2.2.2.2.2.1
     have HDL : Hid (zs.length = pn ∧ pn <= pc) := ⟨HP.out.2.2.2.1, HP.out.2.2.2.2.1⟩
     have hlt : 0 < zs.length := by rw [HP.out.2.2.2.1]; omega
     have hne : zs ≠ [] := fun h => by have := congrArg List.length h; rw [HP.out.2.2.2.1] at this; simp at this; omega
     obtain ⟨hf, hc1⟩ := HNC.out hlt
     have hcl := cntW_le s.width Z (s.blocks.drop f) zs
     have hfn : f <= n := by have := HIN.out.1.len; omega
     have hct := count_ok s.width Z ao n cap M s.blocks po pn pc zs f w4 HIN.out.1.len hn HIN.out.1.le (HIN.out.1.at_.kept (HS.out.1.tr HT.out.2.1) (by simp)) HDL.out.1 HDL.out.2 (HSD.out.kept HT.out.2.1 (by simp)) (by omega) hfn hZ1 hZ2
     have HG2 : Hid (ins s.width Z s.blocks [] ys = ins s.width Z s.blocks (acc ++ [.copy f (cntW s.width Z (s.blocks.drop f) zs)]) (zs.drop (cntW s.width Z (s.blocks.drop f) zs * Z))) := by
      show _ = _
      rw [HP.out.2.2.2.2.2.2, HGO.out hne, HT.out.2.2.2]
     rw [HDL.out.1] at hcl
     generalize cntW s.width Z (s.blocks.drop f) zs = c at hct HG2 hc1 hcl
     have hF5 := HS.out.2.2.kept HT.out.2.1 (by simp)
     have hrg := hF5.range
     obtain ⟨hcl1, hcl2⟩ := hcl
     clear hcl1 hf hF5 HGO HEN HNC hne
     have HLT : Hid (pn <= pn) := by show _ <= _; omega
     have hp9 : 0 < pn := by omega
     have HDD := hide hpn
     have HC1 := hide hc1
     clear hc1
     have hzr := Tryz.zeroRun
     go_upto_region 11 with (first
      | refine wpList_load_mid rfl 109 (.tmp 5) rfl Fb 0 rfl (fdC s.width Z ao n cap (some M)) _ hrg Tryz.underlying109 rfl hilF ?_
      | (go_at_call 69; refine hct.mono ?_; clear hct; rintro e w6 ⟨rfl, hk6⟩; have HK6 := hide hk6; have hnr := heap_new w6 (.cells #[.int .i64 0, .int .i64 0] 116); clear hk6 hrg)
      | refine wpList_store_rowTo rfl 116 (.tmp 10) (.tmp 48) rfl rfl w6.heap.size #[.int .i64 f, .int .i64 c] rfl rfl 116 #[.int .i64 0, .int .i64 0] hnr Tryz.infoRun rfl rfl ?_)
     have HK7 := hide (HK6.out.alloc (.cells #[.int .i64 f, .int .i64 c] 116))
     have hrow := heap_new w6 (.cells #[.int .i64 f, .int .i64 c] 116)
     have HIN7 := hide (HT.out.1.kept HK7.out)
     have HIB := hide (fun g hg => (HT.out.1.kept HK6.out).blk (g := g) hg)
     clear hnr hzr
     obtain ⟨w7, hw7⟩ := nm (w6.alloc (.cells #[.int .i64 f, .int .i64 c] 116))
     rw [hw7] at HK7 hrow HIN7 ⊢
     obtain ⟨R, hR⟩ := nm (w6.heap.size)
     rw [hR] at hrow HIB ⊢
     clear hw7 hR
     have r0 : w7.cell? ⟨R, 0, none⟩ = some (.int .i64 f) := by rw [cell_of_row _ _ _ _ _ _ hrow]; rfl
     have r1 : w7.cell? ⟨R, 1, none⟩ = some (.int .i64 c) := by rw [cell_of_row _ _ _ _ _ _ hrow]; rfl
     obtain ⟨v2, w8, hap2, hin2, hk8, hk8'⟩ := HIN7.out.add (by rw [HT.out.2.2.1]; omega) (HT.out.2.1.tr HK7.out) (w7.alloc (.cells #[.iface 116 (.agg #[.int .i64 f, .int .i64 c])] 129)) ((Kept.refl [] w7).alloc _) w7.heap.size (.copy f c) (.iface 116 (.agg #[.int .i64 f, .int .i64 c])) rfl (by rw [cell_of_row _ _ _ _ _ _ (heap_new w7 _)]; rfl)
     have hrow8 : w8.heap[R]? = some (.cells #[.int .i64 f, .int .i64 c] 116 (0, 0)) := by
      have hRl := (gs hrow).1
      rw [hk8.block R (by rw [World.size_alloc]; omega) (fun hm => by have := HIB.out R (by simpa using hm); omega)]
      exact (((Kept.refl [] w7).alloc _).block R hRl (by simp)).trans hrow
     obtain ⟨lo2, lc2, rfl, _⟩ := hin2.shape
     rw [List.length_append, List.length_singleton, HT.out.2.2.1] at hap2 hin2
     have HT8 := hide (ai hin2 hk8')
     have c1 := (HS.out.2.2.kept hk8' (by simp)).c (j := 1) (u := .int .i64 Z) rfl
     clear hin2 hk8 hk8' HIN7 hrow
     go_upto_region 12 with (refine wpList_appendRun8 rfl _ _ 67 rfl _ _ rfl rfl hap2 ?_)
     clear hap2 r0 r1
     have q0 : w8.cell? ⟨R, 0, none⟩ = some (.int .i64 f) := by rw [cell_of_row _ _ _ _ _ _ hrow8]; rfl
     have q1 : w8.cell? ⟨R, 1, none⟩ = some (.int .i64 c) := by rw [cell_of_row _ _ _ _ _ _ hrow8]; rfl
     have hrl := runLength_ok f c Z w8 (by have := HLT.out; omega)
     have HM1 : Hid (1 <= c * Z) := by have : 1 * 1 <= c * Z := Nat.mul_le_mul HC1.out hZ1; show 1 <= _; omega
     generalize c * Z = m at hrl hcl2 HM1 HG2
     obtain ⟨so, hcg, hse⟩ := cut_from8 po pn pc m hcl2 HDL.out.2
     have HSE := hide (hse w3 zs HDL.out.1 HSD.out)
     clear hse hrow8
     go_wp2_with (go_at_call 70; refine hrl.mono ?_; clear hrl; rintro e w9 ⟨rfl, hk9⟩; have HK9 := hide hk9; clear hk9)
     go_roundw
     case rel => exact ⟨lo2, ln + 1, lc2, acc ++ [.copy f c], so, pn - m, pc - m, zs.drop m, rfl, rfl, by omega, by have := HLT.out; omega, by rw [List.length_append, List.length_singleton, HT.out.2.2.1], HT8.out.1.kept HK9.out, HT8.out.2.tr HK9.out, by rw [List.length_drop, HDL.out.1], by have := HDL.out.2; omega, HSE.out, HG2.out⟩
     case measure =>
      have h1 := HM1.out
      have h2 := HLT.out
      simp
      omega
    ·have ha0 : (0 : Int) < (a : Int) := by omega
     have HA : Hid (0 < a) := Nat.pos_of_ne_zero ha
     clear ha
     obtain ⟨qo, hcf, hsd⟩ := cut_from8 po pn pc a han HP.out.2.2.2.2.1
     have HSD := hide (hsd w3 zs HP.out.2.2.2.1 HP.out.2.2.2.2.2.1)
     have HDL : Hid ((zs.drop a).length = pn - a ∧ pn - a <= pc - a) := ⟨by rw [List.length_drop, HP.out.2.2.2.1], by have := HP.out.2.2.2.2.1; omega⟩
     clear hsd
     have hct := fun W => Tryz.cutTo W po pn pc a (by have := HP.out.2.2.2.2.1; omega)
     obtain ⟨v1, w5, hap, hin, hk5, hk5'⟩ := (HP.out.2.1.kept HK4.out).add (by rw [HP.out.1]; omega) (HP.out.2.2.1.tr HK4.out) (w4.alloc (.cells #[.iface 113 (.slice po a pc)] 129)) ((Kept.refl [] w4).alloc _) w4.heap.size (.lit (zs.take a)) (.iface 113 (.slice po a pc)) ⟨po, a, pc, rfl, by rw [List.length_take, HP.out.2.2.2.1]; omega, by have := HP.out.2.2.2.2.1; omega, HP.out.2.2.2.2.2.1.take a⟩ (by rw [cell_of_row _ _ _ _ _ _ (heap_new w4 _)]; rfl)
     obtain ⟨lo1, lc1, rfl, _⟩ := hin.shape
     rw [List.length_append, List.length_singleton, HP.out.1] at hap hin
     have HT : Hid (InsAt w3 w5 (.slice lo1 (ln + 1) lc1) (acc ++ [.lit (zs.take a)]) ∧ Kept [] w3 w5 ∧ (acc ++ [Stp.lit (zs.take a)]).length = ln + 1 ∧ accL acc zs a = acc ++ [.lit (zs.take a)]) := ⟨hin, hk5', by rw [List.length_append, List.length_singleton, HP.out.1], by unfold accL; rw [if_pos HA.out]⟩
     clear hin hk5 hk5'
     go_upto_region 8 with (refine wpList_appendRun8 rfl _ _ 67 rfl _ _ rfl rfl hap ?_)
     clear hap hct
     have hl3 : ln + 1 <= 2049 := by omega
     by_cases he : a = pn
     ·have HR : Hid (ins s.width Z s.blocks [] ys = (acc ++ [Stp.lit (zs.take a)])) := by
       show _ = _
       rw [HP.out.2.2.2.2.2.2, HEN.out (List.drop_of_length_le (by rw [HP.out.2.2.2.1]; omega)), HT.out.2.2.2]
      obtain ⟨rn, hrn⟩ := nm (pn - a)
      rw [hrn] at hcf
      have hr0 : rn = 0 := by omega
      clear hrn he
      subst hr0
      go_wp2
      go_ret
      exact ⟨_, w3, rfl, by rw [HR.out]; exact HT.out.1, HS.out.1, HT.out.2.1⟩
     ·have hlt : a < zs.length := by rw [HP.out.2.2.2.1]; omega
      have hne : (zs.drop a) ≠ [] := fun h => by have := congrArg List.length h; rw [List.length_drop] at this; simp at this; omega
      obtain ⟨hf, hc1⟩ := HNC.out hlt
      have hcl := cntW_le s.width Z (s.blocks.drop f) (zs.drop a)
      have hfn : f <= n := by have := HIN.out.1.len; omega
      have hct := count_ok s.width Z ao n cap M s.blocks qo (pn - a) (pc - a) (zs.drop a) f w5 HIN.out.1.len hn HIN.out.1.le (HIN.out.1.at_.kept (HS.out.1.tr HT.out.2.1) (by simp)) HDL.out.1 HDL.out.2 (HSD.out.kept HT.out.2.1 (by simp)) (by omega) hfn hZ1 hZ2
      have HG2 : Hid (ins s.width Z s.blocks [] ys = ins s.width Z s.blocks ((acc ++ [Stp.lit (zs.take a)]) ++ [.copy f (cntW s.width Z (s.blocks.drop f) (zs.drop a))]) ((zs.drop a).drop (cntW s.width Z (s.blocks.drop f) (zs.drop a) * Z))) := by
       show _ = _
       rw [HP.out.2.2.2.2.2.2, HGO.out hne, HT.out.2.2.2]
      rw [HDL.out.1] at hcl
      generalize cntW s.width Z (s.blocks.drop f) (zs.drop a) = c at hct HG2 hc1 hcl
      have hF5 := HS.out.2.2.kept HT.out.2.1 (by simp)
      have hrg := hF5.range
      obtain ⟨hcl1, hcl2⟩ := hcl
      clear hcl1 hf hF5 HGO HEN HNC hne
      have HLT : Hid ((pn - a) <= pn) := by show _ <= _; omega
      have hp9 : 0 < (pn - a) := by omega
      obtain ⟨rn, hrn⟩ := nm (pn - a)
      obtain ⟨rc, hrc⟩ := nm (pc - a)
      rw [hrn] at hcf hct hcl2 hp9 HDL HLT
      rw [hrc] at hcf hct HDL
      clear hrn hrc he
      have HC1 := hide hc1
      clear hc1
      have hzr := Tryz.zeroRun
      go_upto_region 11 with (first
       | refine wpList_load_mid rfl 109 (.tmp 5) rfl Fb 0 rfl (fdC s.width Z ao n cap (some M)) _ hrg Tryz.underlying109 rfl hilF ?_
       | (go_at_call 69; refine hct.mono ?_; clear hct; rintro e w6 ⟨rfl, hk6⟩; have HK6 := hide hk6; have hnr := heap_new w6 (.cells #[.int .i64 0, .int .i64 0] 116); clear hk6 hrg)
       | refine wpList_store_rowTo rfl 116 (.tmp 10) (.tmp 48) rfl rfl w6.heap.size #[.int .i64 f, .int .i64 c] rfl rfl 116 #[.int .i64 0, .int .i64 0] hnr Tryz.infoRun rfl rfl ?_)
      have HK7 := hide (HK6.out.alloc (.cells #[.int .i64 f, .int .i64 c] 116))
      have hrow := heap_new w6 (.cells #[.int .i64 f, .int .i64 c] 116)
      have HIN7 := hide (HT.out.1.kept HK7.out)
      have HIB := hide (fun g hg => (HT.out.1.kept HK6.out).blk (g := g) hg)
      clear hnr hzr
      obtain ⟨w7, hw7⟩ := nm (w6.alloc (.cells #[.int .i64 f, .int .i64 c] 116))
      rw [hw7] at HK7 hrow HIN7 ⊢
      obtain ⟨R, hR⟩ := nm (w6.heap.size)
      rw [hR] at hrow HIB ⊢
      clear hw7 hR
      have r0 : w7.cell? ⟨R, 0, none⟩ = some (.int .i64 f) := by rw [cell_of_row _ _ _ _ _ _ hrow]; rfl
      have r1 : w7.cell? ⟨R, 1, none⟩ = some (.int .i64 c) := by rw [cell_of_row _ _ _ _ _ _ hrow]; rfl
      obtain ⟨v2, w8, hap2, hin2, hk8, hk8'⟩ := HIN7.out.add (by rw [HT.out.2.2.1]; omega) (HT.out.2.1.tr HK7.out) (w7.alloc (.cells #[.iface 116 (.agg #[.int .i64 f, .int .i64 c])] 129)) ((Kept.refl [] w7).alloc _) w7.heap.size (.copy f c) (.iface 116 (.agg #[.int .i64 f, .int .i64 c])) rfl (by rw [cell_of_row _ _ _ _ _ _ (heap_new w7 _)]; rfl)
      have hrow8 : w8.heap[R]? = some (.cells #[.int .i64 f, .int .i64 c] 116 (0, 0)) := by
       have hRl := (gs hrow).1
       rw [hk8.block R (by rw [World.size_alloc]; omega) (fun hm => by have := HIB.out R (by simpa using hm); omega)]
       exact (((Kept.refl [] w7).alloc _).block R hRl (by simp)).trans hrow
      obtain ⟨lo2, lc2, rfl, _⟩ := hin2.shape
      rw [List.length_append, List.length_singleton, HT.out.2.2.1] at hap2 hin2
      have HT8 := hide (ai hin2 hk8')
      have c1 := (HS.out.2.2.kept hk8' (by simp)).c (j := 1) (u := .int .i64 Z) rfl
      clear hin2 hk8 hk8' HIN7 hrow
      go_upto_region 12 with (refine wpList_appendRun8 rfl _ _ 67 rfl _ _ rfl rfl hap2 ?_)
      clear hap2 r0 r1
      have q0 : w8.cell? ⟨R, 0, none⟩ = some (.int .i64 f) := by rw [cell_of_row _ _ _ _ _ _ hrow8]; rfl
      have q1 : w8.cell? ⟨R, 1, none⟩ = some (.int .i64 c) := by rw [cell_of_row _ _ _ _ _ _ hrow8]; rfl
      have hrl := runLength_ok f c Z w8 (by have := HLT.out; omega)
      have HM1 : Hid (1 <= c * Z) := by have : 1 * 1 <= c * Z := Nat.mul_le_mul HC1.out hZ1; show 1 <= _; omega
      generalize c * Z = m at hrl hcl2 HM1 HG2
      obtain ⟨so, hcg, hse⟩ := cut_from8 qo rn rc m hcl2 HDL.out.2
      have HSE := hide (hse w3 (zs.drop a) HDL.out.1 HSD.out)
      clear hse hrow8
      go_wp2_with (go_at_call 70; refine hrl.mono ?_; clear hrl; rintro e w9 ⟨rfl, hk9⟩; have HK9 := hide hk9; clear hk9)
      go_roundw
      case rel => exact ⟨lo2, (ln + 1) + 1, lc2, (acc ++ [Stp.lit (zs.take a)]) ++ [.copy f c], so, rn - m, rc - m, (zs.drop a).drop m, rfl, rfl, by omega, by have := HLT.out; omega, by rw [List.length_append, List.length_singleton, HT.out.2.2.1], HT8.out.1.kept HK9.out, HT8.out.2.tr HK9.out, by rw [List.length_drop, HDL.out.1], by have := HDL.out.2; omega, HSE.out, HG2.out⟩
      case measure =>
       have h1 := HM1.out
       have h2 := HLT.out
       simp
       omega
end

section
open Dlt
theorem Tryz.zeroSeal (W : World) : (zeroValue 71).run Tryz.prog W = .ok (.agg zeroK) W := by kernel_rfl
theorem Tryz.infoSealS : (Tryz.prog.info? 71).map (·.size) = some 33 := by kernel_rfl
theorem Tryz.builtSeal0 (f : Nat -> UInt8) (x : Int) (W : World) : (Instr.build 71 #[(0, .int .i64 x), (1, .agg (bys ((List.range 32).map f)).toArray)]).run Tryz.prog W = .ok (.agg (.int .i64 x :: bys ((List.range 32).map f)).toArray) W := by kernel_rfl
theorem Tryz.builtSeal (k : Wk) (W : World) : (Instr.build 71 #[(0, .int .i64 k.sum), (1, .agg (bys k.id).toArray)]).run Tryz.prog W = .ok (.agg k.cells.toArray) W := by
 have h := Tryz.builtSeal0 (fun i => k.id.getD i 0) k.sum W
 rw [range32 k.hid] at h
 exact h
theorem sealOf_ok (width : Int) (ao : Option Addr) (n cap : Nat) (xs : List UInt8) (w : World) (k : Wk) (hsum : k.sum = (n : Int)) (hid : k.id = Sha.ident width xs) (hn : xs.length = n) (hc : n <= cap) (hs : Sl w ao xs) (hm : n <= 4611686018427387904) :
  Calls Tryz.prog 31 #[.int .i64 width, .slice ao n cap] w fun e w' => e = .returned (.agg k.cells.toArray) ∧ Kept [] w w' := by
 have hz := Tryz.zeroSeal
 have hnz : (w.alloc (.cells zeroK 71)).heap[w.heap.size]? = some (.cells zeroK 71 (0, 0)) := heap_new w _
 have hK0 := ka w (.cells zeroK 71)
 have hs0 := hs.kept hK0 (by simp)
 have hof := of_one width ao n cap xs (w.alloc (.cells zeroK 71)) hn hc hs0 hm
 obtain ⟨R, hR⟩ := nm (w.heap.size)
 have hRl : R < (w.alloc (.cells zeroK 71)).heap.size := by rw [<-hR]; simp
 rw [hR] at hnz
 have HB := Tryz.builtSeal k
 have hial : (Tryz.prog.info? 71).map (·.size) = some k.cells.toArray.size := by rw [wk_size]; exact Tryz.infoSealS
 have hzs : zeroK.size = k.cells.toArray.size := by rw [wk_size]; rfl
 have hall := wk_all k
 simp only [hsum, hid] at HB
 clear hsum hid hn hc hs hs0 hm
 go_enter Tryz.func31, Tryz.ntmps31
 go_upto_region 1 with (fail)
 have HR := hide hR
 clear hR
 generalize w.alloc (.cells zeroK 71) = w0 at *
 go_wp2_with (first
  | (go_at_call 45; refine hof.mono ?_; rintro r w2 ⟨rfl, hk2⟩; have H2 := hide hk2; have hn2 : w2.heap[R]? = some (.cells zeroK 71 (0, 0)) := (hk2.block _ hRl (by simp)).trans hnz; clear hof hk2)
  | refine wpList_buildRun8 rfl 71 #[(0, .tmp 6), (1, .tmp 10)] rfl #[(0, .int .i64 n), (1, .agg (bys (Sha.ident width xs)).toArray)] (by simp [Act.eval]) _ (HB _) ?_
  | refine wpList_store_rowTo rfl 71 (.tmp 4) (.tmp 11) rfl rfl R k.cells.toArray rfl rfl 71 zeroK hn2 hial hzs hall ?_)
 have hKF : Kept [] w (w2.setRow R k.cells.toArray) := (hK0.tr H2.out).trans (kept_row w2 R _) (by have := HR.out; simp; omega)
 exact ret_row rfl rfl R 71 k.cells.toArray (0, 0) _ rfl (setRow_heap _ _ _ _ _ _ hn2) Tryz.underlying71 rfl hial ⟨rfl, hKF⟩
theorem Tryz.isRun (v : Value) (w : World) : (Instr.typeAssert (.iface 116 v) 129 116 true).run Tryz.prog w = .ok (.tuple #[v, .bool true]) w := by kernel_rfl
theorem Tryz.isLit (v : Value) (w : World) : (Instr.typeAssert (.iface 113 v) 129 113 true).run Tryz.prog w = .ok (.tuple #[v, .bool true]) w := by kernel_rfl
theorem Tryz.notRun (v : Value) (w : World) : (Instr.typeAssert (.iface 113 v) 129 116 true).run Tryz.prog w = .ok (.tuple #[.agg #[.int .i64 0, .int .i64 0], .bool false]) w := by kernel_rfl
def okW : Stp -> Prop
 | .copy f c => f <= 1000000 ∧ c <= 1000000
 | .lit bs => bs ≠ [] ∧ bs.length <= 1000000
theorem writeInstruction_ok {w0 w : World} {B : Nat} {ys : List UInt8} (h : Wq w0 w B ys) (s : Stp) (v : Value) (hv : StpV w0 s v) (hl : ys.length <= 10000000) (hb : okW s) :
  Calls Tryz.prog 74 #[.pointer (some ⟨B, 0, none⟩), v] w fun e w' => e = .returned (.tuple #[]) ∧ Wq w0 w' B (ys ++ encI s) ∧ Kept [B] w w' := by
 cases s with
 | copy f c =>
  obtain rfl : v = .iface 116 (.agg #[.int .i64 (f : Nat), .int .i64 (c : Nat)]) := hv
  obtain ⟨hf, hc⟩ := hb
  have hta := Tryz.isRun (.agg #[.int .i64 (f : Nat), .int .i64 (c : Nat)])
  have hzr := Tryz.zeroRun
  have hk1 := ka w (.cells #[.int .i64 f, .int .i64 c] 116)
  have hq1 := h.later hk1
  have hrow := heap_new w (.cells #[.int .i64 f, .int .i64 c] 116)
  have hfx := fixed_q hq1 1 1 (by omega) (by omega) (by omega) (by omega)
  have hRB : w.heap.size ≠ B := by have := h.lt; omega
  obtain ⟨R, hR⟩ := nm (w.heap.size)
  rw [hR] at hrow hRB
  have HK1 := hide hk1
  clear hk1 hq1 h
  go_enter Tryz.func74, Tryz.ntmps74
  go_upto_region 3 with (fail)
  clear hR
  generalize w.alloc (.cells #[.int .i64 f, .int .i64 c] 116) = w1 at *
  have HRW := hide hrow
  clear hrow hta hzr
  go_upto_region 4 with (go_at_call 71; refine hfx.mono ?_; rintro r w2 ⟨rfl, hq2, hk2⟩; clear hfx)
  have hr2 := (hk2.block R (gs HRW.out).1 (by simpa using hRB)).trans HRW.out
  have hn1 := number_q hq2 f (by omega) (by rw [List.length_append, Pure.fix_len]; omega)
  have c0 : w2.cell? ⟨R, 0, none⟩ = some (.int .i64 f) := by rw [cell_of_row _ _ _ _ _ _ hr2]; rfl
  have HR2 := hide hr2
  have HK2 := hide hk2
  clear hr2 hk2 hq2
  go_upto_region 5 with (go_at_call 72; refine hn1.mono ?_; rintro r w3 ⟨rfl, hq3, hk3⟩; clear hn1)
  have hr3 := (hk3.block R (gs HR2.out).1 (by simpa using hRB)).trans HR2.out
  have e1 := Pure.enc_len5 (v := f) (by omega)
  have hn2 := number_q hq3 c (by omega) (by rw [List.length_append, List.length_append, Pure.fix_len]; omega)
  have c1 : w3.cell? ⟨R, 1, none⟩ = some (.int .i64 c) := by rw [cell_of_row _ _ _ _ _ _ hr3]; rfl
  have HK3 := hide hk3
  clear hr3 hk3 hq3 c0 e1
  go_wp2_with (go_at_call 72; refine hn2.mono ?_; rintro r w4 ⟨rfl, hq4, hk4⟩; have H4 := hide (ai hq4 hk4); clear hn2 hq4 hk4)
  refine bodyPost_end (results_none rfl _ _ _) rfl ⟨rfl, ?_, (((HK1.out.mono (by simp)).tr HK2.out).tr HK3.out).tr H4.out.2⟩
  have := H4.out.1
  simp only [List.append_assoc] at this
  simpa only [encI] using this
 | lit bs =>
  obtain ⟨ao, n, cap, rfl, hn, hc, hs⟩ := hv
  obtain ⟨hb0, hb'⟩ : bs ≠ [] ∧ bs.length <= 1000000 := hb
  have hta := Tryz.notRun (.slice ao n cap)
  have htb := Tryz.isLit (.slice ao n cap)
  have hfx := fixed_q h 2 1 (by omega) (by omega) (by omega) (by omega)
  have hfar : ∀ a, ao = some a -> a.block ≠ B := by
   intro a ha
   obtain ⟨b, off, e, hcell⟩ := hs 0 (List.length_pos_iff.2 hb0)
   rw [ha] at e
   cases e
   have h1 : b < w0.heap.size := World.block_lt_of_cell? _ _ hcell
   have h2 := h.ge
   show b ≠ B
   omega
  have HIN := hide (ai hn (ai hc (ai hs (ai hfar hb'))))
  clear hn hc hs h hfar hb' hb0
  go_enter Tryz.func74, Tryz.ntmps74
  go_upto_region 9 with (go_at_call 71; refine hfx.mono ?_; rintro r w2 ⟨rfl, hq2, hk2⟩; clear hfx)
  have htx := text_q hq2 ao n cap bs HIN.out.1 (HIN.out.2.2.1.kept hq2.kp (by simp)) HIN.out.2.2.2.1 HIN.out.2.1 (by rw [List.length_append, Pure.fix_len]; omega) (by have := HIN.out.1; have := HIN.out.2.2.2.2; omega)
  have HK2 := hide hk2
  clear hk2 hq2 hta htb
  go_wp2_with (go_at_call 105; refine htx.mono ?_; rintro r w4 ⟨rfl, hq4, hk4⟩; have H4 := hide (ai hq4 hk4); clear htx hq4 hk4)
  refine bodyPost_end (results_none rfl _ _ _) rfl ⟨rfl, ?_, HK2.out.tr H4.out.2⟩
  have := H4.out.1
  simp only [List.append_assoc] at this
  simpa only [encI] using this
end

section
open Dlt
theorem InsAt.cell {w0 w : World} {lo : Option Addr} {n lc : Nat} {L : List Stp} (h : InsAt w0 w (.slice lo n lc) L) {i : Nat} (hi : i < L.length) : ∃ g off u s, lo = some ⟨g, off, none⟩ ∧ w.cell? ⟨g, off + i, none⟩ = some u ∧ L[i]? = some s ∧ StpV w0 s u := by
 obtain ⟨vals, hown, hl, hv⟩ := h.out
 rcases hown.2 with ⟨e, h0⟩ | ⟨g, cp, cur, e, _, hg, _, _, _, ht⟩
 ·omega
 ·cases e
  obtain ⟨u, hvi⟩ : ∃ u, vals[i]? = some u := ⟨_, List.getElem?_eq_getElem (by omega)⟩
  have hsi : L[i]? = some L[i] := List.getElem?_eq_getElem hi
  refine ⟨g, 0, u, L[i], rfl, ?_, hsi, hv i _ _ hsi hvi⟩
  rw [Nat.zero_add, cell_of_row _ _ _ _ _ _ hg]
  rw [<-ht, List.getElem?_take] at hvi
  split at hvi
  ·simpa using hvi
  ·cases hvi
def ordC (W Z : Int) (bk tk : Wk) (v : Value) : List Value := .int .i64 W :: .int .i64 Z :: (bk.cells ++ (tk.cells ++ [v]))
theorem ordC_len (W Z : Int) (bk tk : Wk) (v : Value) : (ordC W Z bk tk v).length = 69 := by simp [ordC, bk.len, tk.len]
theorem ordC_b {W Z : Int} {bk tk : Wk} {v : Value} {j : Nat} {u : Value} (h : bk.cells[j]? = some u) : (ordC W Z bk tk v)[2 + j]? = some u := by
 have hj := (List.getElem?_eq_some_iff.1 h).1
 unfold ordC
 rw [show 2 + j = j + 1 + 1 by omega, List.getElem?_cons_succ, List.getElem?_cons_succ, List.getElem?_append_left hj]
 exact h
theorem ordC_t {W Z : Int} {bk tk : Wk} {v : Value} {j : Nat} {u : Value} (h : tk.cells[j]? = some u) : (ordC W Z bk tk v)[35 + j]? = some u := by
 have hj := (List.getElem?_eq_some_iff.1 h).1
 unfold ordC
 rw [show 35 + j = (33 + j) + 1 + 1 by omega, List.getElem?_cons_succ, List.getElem?_cons_succ, List.getElem?_append_right (by rw [bk.len]; omega), bk.len, show 33 + j - 33 = j by omega, List.getElem?_append_left hj]
 exact h
theorem ordC_v (W Z : Int) (bk tk : Wk) (v : Value) : (ordC W Z bk tk v)[68]? = some v := by
 unfold ordC
 rw [show 68 = 66 + 1 + 1 by omega, List.getElem?_cons_succ, List.getElem?_cons_succ, List.getElem?_append_right (by rw [bk.len]; omega), bk.len, List.getElem?_append_right (by rw [tk.len]; omega), tk.len]
 rfl
structure OrdAt (w : World) (G : Nat) (W Z : Int) (bk tk : Wk) (v : Value) : Prop where
 row : w.heap[G]? = some (.cells (ordC W Z bk tk v).toArray 74 (0, 0))
theorem OrdAt.kept {l : List Nat} {w w' : World} {G : Nat} {W Z : Int} {bk tk : Wk} {v : Value} (h : OrdAt w G W Z bk tk v) (hk : Kept l w w') (hn : G ∉ l) : OrdAt w' G W Z bk tk v := ⟨(hk.block G (gs h.row).1 hn).trans h.row⟩
theorem OrdAt.c {w : World} {G : Nat} {W Z : Int} {bk tk : Wk} {v : Value} (h : OrdAt w G W Z bk tk v) {j : Nat} {u : Value} (hu : (ordC W Z bk tk v)[j]? = some u) : w.cell? ⟨G, j, none⟩ = some u := by rw [cell_of_row _ _ _ _ _ _ h.row]; simpa using hu
theorem OrdAt.b {w : World} {G : Nat} {W Z : Int} {bk tk : Wk} {v : Value} (h : OrdAt w G W Z bk tk v) : w.rangeAt G 2 bk.cells := fun j u hu => h.c (ordC_b hu)
theorem OrdAt.t {w : World} {G : Nat} {W Z : Int} {bk tk : Wk} {v : Value} (h : OrdAt w G W Z bk tk v) : w.rangeAt G 35 tk.cells := fun j u hu => h.c (ordC_t hu)
theorem OrdAt.new (w : World) (W Z : Int) (bk tk : Wk) (v : Value) : OrdAt (w.alloc (.cells (ordC W Z bk tk v).toArray 74)) w.heap.size W Z bk tk v := ⟨heap_new w _⟩
theorem Tryz.infoSeal (e : Wk) : (Tryz.prog.info? 71).map (·.size) = some e.cells.length := by rw [e.len]; exact Tryz.infoSealS
theorem Tryz.infoSealA (e : Wk) : (Tryz.prog.info? 71).map (·.size) = some e.cells.toArray.size := by rw [wk_size]; exact Tryz.infoSealS
theorem Tryz.builtTwo0 (f g : Nat -> UInt8) (x y : Int) (W : World) : (Instr.buildSlice 126 2 #[(0, .agg (.int .i64 x :: bys ((List.range 32).map f)).toArray), (1, .agg (.int .i64 y :: bys ((List.range 32).map g)).toArray)]).run Tryz.prog W = .ok (.slice (some ⟨W.heap.size, 0, none⟩) 2 2) (W.alloc (.cells ((.int .i64 x :: bys ((List.range 32).map f)) ++ (.int .i64 y :: bys ((List.range 32).map g))).toArray 71)) := by kernel_rfl
theorem Tryz.builtTwo (b t : Wk) (W : World) : (Instr.buildSlice 126 2 #[(0, .agg b.cells.toArray), (1, .agg t.cells.toArray)]).run Tryz.prog W = .ok (.slice (some ⟨W.heap.size, 0, none⟩) 2 2) (W.alloc (.cells (b.cells ++ t.cells).toArray 71)) := by
 have h := Tryz.builtTwo0 (fun i => b.id.getD i 0) (fun i => t.id.getD i 0) b.sum t.sum W
 rw [range32 b.hid, range32 t.hid] at h
 exact h
theorem wpList_buildTwo8 {ops : Array Oper} {rest : List Oper} {o : Oper} {a : Act} {w : World} {Q : Exit -> Act -> World -> Prop} (hgd : o.guard = none) (t : TypeId) (n : Nat) (parts : Array (Nat × Operand)) (ho : o.op = .buildSlice t n parts) (vals : Array (Nat × Value)) (hv : (parts.map fun (i, x) => (i, a.eval x)) = vals) {v : Value} {w' : World} (hrun : (Instr.buildSlice t n vals).run Tryz.prog w = .ok v w')
  (h : wpList Tryz.prog ops Q rest (a.put o.dst v) w') : wpList Tryz.prog ops Q (o :: rest) a w :=
 wpList_plain hgd fun _ hK => by
  unfold Oper.wp execOp
  simp only [ho, hv, Sem.run_bind, hrun, Result.andThen_ok]
  exact hK _ _ h
def encK (W : Nat) (e : Wk) : List UInt8 := Pure.enc e.sum.toNat ++ e.id.take W
theorem encK_len {W : Nat} {e : Wk} (hW : W <= 32) (h : e.sum.toNat <= 2147483647) : (encK W e).length <= 40 := by
 have := Pure.enc_len5 (v := e.sum.toNat) (by omega)
 simp only [encK, List.length_append, List.length_take, e.hid]
 omega
end

section
open Dlt
theorem flatI_snoc {L : List Stp} {k : Nat} {s : Stp} (h : L[k]? = some s) : (L.take (k + 1)).flatMap encI = (L.take k).flatMap encI ++ encI s := by
 obtain ⟨hk, rfl⟩ := List.getElem?_eq_some_iff.1 h
 rw [List.take_succ_eq_append_getElem hk, List.flatMap_append]
 simp only [List.flatMap_cons, List.flatMap_nil, List.append_nil]
theorem flatI_le (L : List Stp) (k : Nat) : ((L.take k).flatMap encI).length <= (L.flatMap encI).length := by
 conv => rhs; rw [<-List.take_append_drop k L, List.flatMap_append, List.length_append]
 omega
theorem writeOrder_ok (W Z : Nat) (bk tk : Wk) (lo : Option Addr) (n lc : Nat) (L : List Stp) (w0 w : World) (hW2 : W <= 32) (hZ2 : Z <= 4096) (hb1 : 0 <= bk.sum) (hb2 : bk.sum <= 2147483647) (ht1 : 0 <= tk.sum) (ht2 : tk.sum <= 2147483647) (hI : InsAt w0 w (.slice lo n lc) L) (hL : L.length = n) (hn : n <= 1000000) (h0 : Kept [] w0 w) (hst : ∀ s, s ∈ L -> okW s) (hlen : (L.flatMap encI).length <= 5000000) (out : List UInt8) (hout : sealed ([] ++ Pure.fix 68 1 ++ Pure.enc W ++ Pure.enc Z ++ [bk, tk].flatMap (encK W) ++ Pure.enc n ++ L.flatMap encI) = out) :
  Calls Tryz.prog 30 #[.agg (ordC W Z bk tk (.slice lo n lc)).toArray] w fun e w' => RowB w w' e out ∧ Kept [] w w' := by
 have HOUT := hide hout
 clear hout
 have hA := OrdAt.new w W Z bk tk (.slice lo n lc)
 have hK := ka w (.cells (ordC W Z bk tk (.slice lo n lc)).toArray 74)
 have HIN := hide (ai hI (ai hL (ai h0 (ai hst hlen))))
 have hzw := Tryz.zeroWriter
 have hG : w.heap.size < (w.alloc (.cells (ordC W Z bk tk (.slice lo n lc)).toArray 74)).heap.size := by simp
 clear hI hL h0 hst hlen
 obtain ⟨G, hGG⟩ := nm (w.heap.size)
 rw [hGG] at hA hG
 go_enter Tryz.func30, Tryz.ntmps30
 go_upto_region 1 with (fail)
 have HGG := hide hGG
 clear hGG
 generalize w.alloc (.cells (ordC W Z bk tk (.slice lo n lc)).toArray 74) = w1 at *
 have hq := Wq.new hK
 have hka := ka w1 (.cells zeroW 123)
 obtain ⟨B, hB⟩ := nm (w1.heap.size)
 rw [hB] at hq hG
 go_upto_region 2 with (fail)
 clear hB
 generalize w1.alloc (.cells zeroW 123) = w2 at *
 have hGB : G ≠ B := by omega
 have HO2 := hide (hA.kept hka (by simp))
 have hf := fixed_q hq 68 1 (by omega) (by omega) (by omega) (by simp)
 clear hq hka hA
 go_upto_region 3 with (go_at_call 71; refine hf.mono ?_; rintro r w3 ⟨rfl, hq3, hk3⟩; clear hf)
 have HO3 := hide (HO2.out.kept hk3 (by simpa using hGB))
 have c0 := HO3.out.c (j := 0) (u := .int .i64 W) rfl
 have hn1 := number_q hq3 W (by omega) (by simp [Pure.fix_len])
 clear hk3 hq3 HO2
 go_upto_region 4 with (go_at_call 72; refine hn1.mono ?_; rintro r w4 ⟨rfl, hq4, hk4⟩; clear hn1)
 have HO4 := hide (HO3.out.kept hk4 (by simpa using hGB))
 have c1 := HO4.out.c (j := 1) (u := .int .i64 Z) rfl
 have hl4 : ([] ++ Pure.fix 68 1 ++ Pure.enc W).length <= 100 := by have := Pure.enc_len5 (v := W) (by omega); simp [Pure.fix_len]; omega
 have hn1 := number_q hq4 Z (by omega) (by omega)
 clear hk4 hq4 HO3 c0
 go_upto_region 5 with (go_at_call 72; refine hn1.mono ?_; rintro r w5 ⟨rfl, hq5, hk5⟩; clear hn1)
 have HO5 := hide (HO4.out.kept hk5 (by simpa using hGB))
 have hl5 : ([] ++ Pure.fix 68 1 ++ Pure.enc W ++ Pure.enc Z).length <= 200 := by have := Pure.enc_len5 (v := Z) (by omega); rw [List.length_append]; omega
 have HQ5 := hide hq5
 have hrb := HO5.out.b
 have hrt := HO5.out.t
 have hib := Tryz.infoSeal bk
 have hit := Tryz.infoSeal tk
 have hbt := Tryz.builtTwo bk tk w5
 have HLT : Hid (G < B) := hG
 clear hk5 hq5 HO4 c1 hl4
 obtain ⟨hd, hhd⟩ := nm ([] ++ Pure.fix 68 1 ++ Pure.enc W ++ Pure.enc Z)
 rw [hhd] at HQ5 hl5
 have HHD := hide hhd
 clear hhd
 go_upto_region 6 with (first
  | refine wpList_load_mid rfl 71 (.tmp 15) rfl G 2 rfl bk.cells _ hrb Tryz.underlying71 rfl hib ?_
  | refine wpList_load_mid rfl 71 (.tmp 17) rfl G 35 rfl tk.cells _ hrt Tryz.underlying71 rfl hit ?_
  | refine wpList_buildTwo8 rfl 126 2 #[(0, .tmp 16), (1, .tmp 18)] rfl #[(0, .agg bk.cells.toArray), (1, .agg tk.cells.toArray)] (by simp [Act.eval, Act.put]) hbt ?_)
 have hk6 := ka w5 (.cells (bk.cells ++ tk.cells).toArray 71)
 have HO6 := hide (HO5.out.kept hk6 (by simp))
 have HQ6 := hide (HQ5.out.later hk6)
 have HD6 := hide (heap_new w5 (.cells (bk.cells ++ tk.cells).toArray 71))
 have HBD : Hid (B < w5.heap.size) := HQ5.out.lt
 clear hrb hrt hib hit hbt HO5 HQ5 hk6
 generalize w5.alloc (.cells (bk.cells ++ tk.cells).toArray 71) = w6 at *
 generalize w5.heap.size = D at *
 clear w5
 go_loopw [21] (fun x wr => ∃ k : Nat, k <= 2 ∧ x = .int .i64 k ∧ Hid (Wq w wr B (hd ++ ([bk, tk].take k).flatMap (encK W))) ∧ Hid (OrdAt wr G W Z bk tk (.slice lo n lc)) ∧ Hid (wr.heap[D]? = some (.cells (bk.cells ++ tk.cells).toArray 71 (0, 0)))) (fun x wr => 2 - (intOf x).toNat)
 case atStart => exact ⟨0, by omega, rfl, by show Wq _ _ _ _; simpa using HQ6.out, HO6, HD6⟩
 case round =>
  clear HQ6 HO6 HD6
  obtain ⟨k, hk, rfl, HQ, HO, HD⟩ := hrel
  have hlen : (hd ++ ([bk, tk].take k).flatMap (encK W)).length <= 400 := by
   have e1 := encK_len (e := bk) hW2 (by omega)
   have e2 := encK_len (e := tk) hW2 (by omega)
   rcases (show k = 0 ∨ k = 1 ∨ k = 2 by omega) with rfl | rfl | rfl <;> simp <;> omega
  by_cases hlt : k < 2
  ·obtain ⟨e, he⟩ : ∃ e, [bk, tk][k]? = some e := ⟨_, List.getElem?_eq_getElem (by simpa using hlt)⟩
   have hrg : wr.rangeAt D (k * 33) e.cells := by
    have hr := row_rangeK HD.out
    rcases (show k = 0 ∨ k = 1 by omega) with rfl | rfl
    ·cases he
     intro j u hu
     have := hr j u (by rw [List.getElem?_append_left (List.getElem?_eq_some_iff.1 hu).1]; exact hu)
     simpa using this
    ·cases he
     intro j u hu
     have := hr (33 + j) u (by rw [List.getElem?_append_right (by rw [bk.len]; omega), bk.len, Nat.add_sub_cancel_left]; exact hu)
     simpa using this
   have HF : Hid (([bk, tk].take (k + 1)).flatMap (encK W) = ([bk, tk].take k).flatMap (encK W) ++ encK W e) := by
    rcases (show k = 0 ∨ k = 1 by omega) with rfl | rfl <;> (cases he; show _ = _; simp)
   have t1 : 0 <= e.sum ∧ e.sum <= 2147483647 := by
    rcases (show k = 0 ∨ k = 1 by omega) with rfl | rfl <;> (cases he; exact ⟨by assumption, by assumption⟩)
   have hnz := heap_new wr (.cells zeroK 71)
   have hil := Tryz.infoSeal e
   have hia := Tryz.infoSealA e
   have hzs := zeroK_size e
   have hal := wk_all e
   have hzk := Tryz.zeroSeal
   clear he
   go_upto_region 8 with (first | refine wpList_load_mid rfl 71 (.tmp 23) rfl D (k * 33) rfl e.cells _ hrg Tryz.underlying71 rfl hil ?_ | refine wpList_store_rowTo rfl 71 (.tmp 5) (.tmp 24) rfl rfl wr.heap.size e.cells.toArray rfl rfl 71 zeroK hnz hia hzs hal ?_)
   have hkw : Kept [] wr ((wr.alloc (.cells zeroK 71)).setRow wr.heap.size e.cells.toArray) := ((Kept.refl [] wr).alloc _).tr (kept_row _ _ _)
   have hrw := row_rangeK (w := (wr.alloc (.cells zeroK 71)).setRow wr.heap.size e.cells.toArray) (setRow_heap _ _ _ _ _ _ (heap_new wr _))
   have hq := HQ.out.later hkw
   have HO1 := hide (HO.out.kept hkw (by simp))
   have HDL : Hid (D < wr.heap.size) := (gs HD.out).1
   have HD1 := hide ((hkw.block D HDL.out (by simp)).trans HD.out)
   have hVB : wr.heap.size ≠ B := by have := HQ.out.lt; omega
   clear hrg hia hzs hal hnz HQ HO HD hil hkw hzk
   obtain ⟨V, hV⟩ := nm (wr.heap.size)
   rw [hV] at hrw hVB HDL ⊢
   have hX : (wr.alloc (.cells zeroK 71)).setRow V e.cells.toArray = (wr.alloc (.cells zeroK 71)).setRow wr.heap.size e.cells.toArray := by rw [hV]
   rw [hX] at hrw ⊢
   clear hV hX
   generalize (wr.alloc (.cells zeroK 71)).setRow wr.heap.size e.cells.toArray = W2 at *
   obtain ⟨S, hS⟩ := Int.eq_ofNat_of_zero_le t1.1
   have cs := hrw 0 _ e.su
   rw [Nat.zero_add, hS] at cs
   have hS2 : S <= 2147483647 := by omega
   have hf := number_q hq S hS2 (by omega)
   have hes : e.sum.toNat = S := by omega
   have HES := hide hes
   have e5 := Pure.enc_len5 (v := S) (by omega)
   have H2 := hide hrw
   clear hq hS t1 hes hrw
   go_upto_region 9 with (go_at_call 72; refine hf.mono ?_; rintro r w3 ⟨rfl, hq3, hk3⟩; clear hf)
   have HO3 := hide (HO1.out.kept hk3 (by simpa using hGB))
   have c0 := HO3.out.c (j := 0) (u := .int .i64 W) rfl
   have hDB : D ≠ B := by have := HBD.out; omega
   have HD3 := hide ((hk3.block D (gs HD1.out).1 (by simpa using hDB)).trans HD1.out)
   have hrw3 : w3.rangeAt V 0 e.cells := fun j v hv => hk3.cellOf (H2.out j v hv) (by simpa using hVB)
   have hsl3 := (wk_sl hrw3).take W
   have hbl3 : (e.id.take W).length = W := by rw [List.length_take, e.hid]; omega
   have hn1 := raw_q hq3 (some ⟨V, 0 + 1, none⟩) W 32 (e.id.take W) hbl3 hsl3 (by rintro a ⟨⟩; exact hVB) hW2 (by rw [List.length_append]; omega) (by omega)
   have hsi := fun X => Tryz.sliceIDo X V 1 W hW2
   rw [Nat.zero_add] at hn1
   clear hrw3 hsl3 hbl3 hq3 hk3 HO1 HD1 H2 cs
   go_wp2_with (go_at_call 73; refine hn1.mono ?_; rintro r w5 ⟨rfl, hq5, hk5⟩; have H5 := hide (ai hq5 hk5); clear hn1 hq5 hk5)
   go_roundw
   case rel =>
    refine ⟨k + 1, by omega, by go_num, ?_, HO3.out.kept H5.out.2 (by simpa using hGB), (H5.out.2.block D (gs HD3.out).1 (by simpa using hDB)).trans HD3.out⟩
    show Wq _ _ _ _
    rw [HF.out]
    unfold encK
    rw [HES.out]
    have := H5.out.1
    simp only [List.append_assoc] at this ⊢
    exact this
   case measure => simp [intOf]; omega
  ·obtain rfl : k = 2 := by omega
   have hq := HQ.out
   rw [List.take_of_length_le (by simp)] at hq hlen
   have c4 := HO.out.c (ordC_v W Z bk tk (.slice lo n lc))
   have hn1 := number_q hq n (by omega) (by omega)
   have e5 := Pure.enc_len5 (v := n) (by omega)
   clear HQ hq HD
   go_upto_region 12 with (go_at_call 72; refine hn1.mono ?_; rintro r w3 ⟨rfl, hq3, hk3⟩; clear hn1)
   have HO3 := hide (HO.out.kept hk3 (by simpa using hGB))
   clear c4
   have c4 := HO3.out.c (ordC_v W Z bk tk (.slice lo n lc))
   have hl3 : (hd ++ [bk, tk].flatMap (encK W) ++ Pure.enc n).length <= 500 := by rw [List.length_append]; omega
   have HQ3 := hide hq3
   clear hq3 hk3 HO hlen e5
   obtain ⟨h2, hh2⟩ := nm (hd ++ [bk, tk].flatMap (encK W) ++ Pure.enc n)
   rw [hh2] at HQ3 hl3
   have HE : Hid (sealed (h2 ++ L.flatMap encI) = out) := by show _ = _; rw [<-HOUT.out, HHD.out, hh2]
   clear hh2 HHD HOUT
   go_wp2
   go_loopw [41] (fun x wr => ∃ k : Nat, k <= n ∧ x = .int .i64 k ∧ Hid (Wq w wr B (h2 ++ (L.take k).flatMap encI))) (fun x wr => n - (intOf x).toNat)
   case atStart => exact ⟨0, Nat.zero_le _, rfl, by show Wq _ _ _ _; simpa using HQ3.out⟩
   case round =>
    clear HQ3 HO3 c4
    obtain ⟨k, hk, rfl, HQ⟩ := hrel
    have hlen : (h2 ++ (L.take k).flatMap encI).length <= 6000000 := by have := flatI_le L k; have := HIN.out.2.2.2.2; rw [List.length_append]; omega
    by_cases hlt : k < n
    ·obtain ⟨g, off, u, s, rfl, hcell, hsi, hsv⟩ := (HIN.out.1.kept HQ.out.kp).cell (i := k) (by rw [HIN.out.2.1]; exact hlt)
     have hok := HIN.out.2.2.2.1 s (List.mem_of_getElem? hsi)
     have HF := hide (flatI_snoc hsi)
     have hwi := writeInstruction_ok HQ.out s u (hsv.kept HIN.out.2.2.1) (by omega) hok
     clear hsi hsv hok
     go_wp2_with (go_at_call 74; refine hwi.mono ?_; rintro r w5 ⟨rfl, hq5, hk5⟩; have H5 := hide hq5; clear hwi hq5 hk5)
     go_roundw
     case rel =>
      refine ⟨k + 1, by omega, by go_num, ?_⟩
      show Wq _ _ _ _
      rw [HF.out, <-List.append_assoc]
      exact H5.out
     case measure => simp [intOf]; omega
    ·obtain rfl : k = n := by omega
     have hqe := HQ.out
     rw [List.take_of_length_le (by rw [HIN.out.2.1]; exact Nat.le_refl _)] at hqe hlen
     have hsu := summed_ok hqe (by omega)
     have HGE := hide (ai hqe.kp hqe.ge)
     rw [HE.out] at hsu
     obtain ⟨ol, hol⟩ := nm (out.length)
     unfold RowB at hsu
     rw [hol] at hsu
     have HOL := hide hol
     clear HQ hqe hol
     go_wp2_with (go_at_call 75; refine hsu.mono ?_; rintro r w5 ⟨⟨ao5, cap5, rfl, ho5⟩, hk5⟩; have H5 := hide (ai ho5 hk5); clear hsu ho5 hk5)
     go_ret
     refine ⟨⟨ao5, cap5, by rw [HOL.out]; rfl, by rw [HOL.out]; exact own_base H5.out.1 HGE.out.1.size⟩, HGE.out.1.trans H5.out.2 (fun i hi hl => ?_)⟩
     simp only [List.mem_singleton] at hi
     have := HGE.out.2
     omega
end

section
open Dlt
def litL : Stp -> Nat
 | .copy _ _ => 0
 | .lit bs => bs.length
def litS (L : List Stp) : Nat := (L.map litL).sum
theorem litS_copy (L : List Stp) (f c : Nat) : litS (L ++ [.copy f c]) = litS L := by simp [litS, litL]
theorem litS_lit (L : List Stp) (bs : List UInt8) : litS (L ++ [.lit bs]) = litS L + bs.length := by simp [litS, litL]
theorem accL_ok {acc : List Stp} {ys : List UInt8} {a : Nat} (hy : ys ≠ []) (hl : ys.length <= 1000000) (h : ∀ s, s ∈ acc -> okW s) : (∀ s, s ∈ accL acc ys a -> okW s) ∧ litS (accL acc ys a) <= litS acc + min a ys.length := by
 unfold accL
 split
 ·next ha =>
  refine ⟨fun s hs => ?_, by rw [litS_lit, List.length_take]; omega⟩
  rw [List.mem_append, List.mem_singleton] at hs
  rcases hs with hs | rfl
  ·exact h s hs
  ·refine ⟨fun e => ?_, by rw [List.length_take]; omega⟩
   have h0 : (ys.take a).length = 0 := by rw [e]; rfl
   have hp : 0 < ys.length := List.length_pos_iff.2 hy
   rw [List.length_take] at h0
   omega
 ·exact ⟨h, by omega⟩
theorem insF_ok {wd : Int} {Z : Nat} {L : List Wk} (hZ : 1 <= Z) (hL : L.length <= 1000000) : ∀ (k : Nat) (acc : List Stp) (ys : List UInt8), ys.length <= 1000000 -> (∀ s, s ∈ acc -> okW s) -> (∀ s, s ∈ insF wd Z L k acc ys -> okW s) ∧ litS (insF wd Z L k acc ys) <= litS acc + ys.length
 | 0, acc, ys, _, h => ⟨h, by show litS acc <= _; omega⟩
 | k + 1, acc, ys, hl, h => by
  unfold insF
  split
  ·exact ⟨h, by omega⟩
  ·next hc =>
   have hy : ys ≠ [] := fun e => hc (.inl e)
   obtain ⟨h1, h2⟩ := accL_ok (a := (nextI wd Z L ys).1) hy hl h
   have hle := nextI_le wd Z L ys
   split
   ·exact ⟨h1, by omega⟩
   ·next hd =>
    have hlt : (nextI wd Z L ys).1 < ys.length := by
     apply Classical.byContradiction; intro hh
     exact hd (List.drop_of_length_le (by omega))
    obtain ⟨hf, _⟩ := next_cnt (wd := wd) (L := L) hZ hlt
    have hcn := (cntW_le wd Z (L.drop (nextI wd Z L ys).2) (ys.drop (nextI wd Z L ys).1)).1
    rw [List.length_drop] at hcn
    have hr := insF_ok (wd := wd) hZ hL k (accL acc ys (nextI wd Z L ys).1 ++ [.copy (nextI wd Z L ys).2 (cntW wd Z (L.drop (nextI wd Z L ys).2) (ys.drop (nextI wd Z L ys).1))]) ((ys.drop (nextI wd Z L ys).1).drop (cntW wd Z (L.drop (nextI wd Z L ys).2) (ys.drop (nextI wd Z L ys).1) * Z)) (by rw [List.length_drop, List.length_drop]; omega) (fun s hs => by
     rw [List.mem_append, List.mem_singleton] at hs
     rcases hs with hs | rfl
     ·exact h1 s hs
     ·exact ⟨by omega, by omega⟩)
    refine ⟨hr.1, Nat.le_trans hr.2 ?_⟩
    rw [litS_copy, List.length_drop, List.length_drop]
    omega
theorem encI_len {s : Stp} (h : okW s) : (encI s).length <= 11 + litL s := by
 cases s with
 | copy f c =>
  obtain ⟨h1, h2⟩ := h
  have e1 := Pure.enc_len5 (v := f) (by omega)
  have e2 := Pure.enc_len5 (v := c) (by omega)
  simp only [encI, litL, List.length_append, Pure.fix_len]
  omega
 | lit bs =>
  obtain ⟨h1, h2⟩ := h
  have e1 := Pure.enc_len5 (v := bs.length) (by omega)
  simp only [encI, litL, List.length_append, Pure.fix_len]
  omega
theorem flatI_len : ∀ (L : List Stp), (∀ s, s ∈ L -> okW s) -> (L.flatMap encI).length <= 11 * L.length + litS L
 | [], _ => by simp [litS]
 | s :: L, h => by
  have h1 := encI_len (h s (List.mem_cons_self ..))
  have h2 := flatI_len L (fun t ht => h t (List.mem_cons_of_mem _ ht))
  rw [List.flatMap_cons, List.length_append, List.length_cons]
  have e : litS (s :: L) = litL s + litS L := by simp [litS]
  rw [e]
  omega
namespace Dlt
def insOf (s : Sig) (t : List UInt8) : List Stp := ins s.width s.size.toNat s.blocks [] t
theorem lenWf (n : Nat) (h : n <= 131072) : (Lit.int .i64 (n : Nat)).wf = true := wf64 (by omega) (by omega)
def baseK (s : Sig) (h : May s) : Wk := ⟨s.length, s.base, s.hb, by
 obtain ⟨n, hn⟩ := Int.eq_ofNat_of_zero_le h.l1
 rw [hn]
 exact lenWf n (by have := h.l2; omega)⟩
def targK (wd : Int) (t : List UInt8) (h : t.length <= 131072) : Wk := ⟨(t.length : Nat), Sha.ident wd t, Sha.ident_len _ _, lenWf _ h⟩
def makeX (s : Sig) (t : List UInt8) : List UInt8 :=
 sealed ([] ++ Pure.fix 68 1 ++ Pure.enc s.width.toNat ++ Pure.enc s.size.toNat ++ ((Pure.enc s.length.toNat ++ s.base.take s.width.toNat) ++ (Pure.enc t.length ++ (Sha.ident s.width t).take s.width.toNat)) ++ Pure.enc (insOf s t).length ++ (insOf s t).flatMap encI)
def makeE (s : Sig) (t : List UInt8) : Int :=
 if may s = false then 180 else if 131072 < t.length then 2 else if 2048 < (insOf s t).length then 183 else if 131072 < (makeX s t).length then 2 else 0
def makeB (s : Sig) (t : List UInt8) : List UInt8 := if makeE s t = 0 then makeX s t else []
end Dlt
theorem Tryz.builtOrd0 (f g : Nat -> UInt8) (a b x y : Int) (ao : Option Addr) (n cap : Nat) (W : World) : (Instr.build 74 #[(0, .int .i64 a), (1, .int .i64 b), (2, .agg (.int .i64 x :: bys ((List.range 32).map f)).toArray), (3, .agg (.int .i64 y :: bys ((List.range 32).map g)).toArray), (4, .slice ao n cap)]).run Tryz.prog W = .ok (.agg (.int .i64 a :: .int .i64 b :: ((.int .i64 x :: bys ((List.range 32).map f)) ++ ((.int .i64 y :: bys ((List.range 32).map g)) ++ [.slice ao n cap]))).toArray) W := by kernel_rfl
theorem Tryz.builtOrd (W Z : Int) (bk tk : Wk) (ao : Option Addr) (n cap : Nat) (X : World) : (Instr.build 74 #[(0, .int .i64 W), (1, .int .i64 Z), (2, .agg bk.cells.toArray), (3, .agg tk.cells.toArray), (4, .slice ao n cap)]).run Tryz.prog X = .ok (.agg (ordC W Z bk tk (.slice ao n cap)).toArray) X := by
 have h := Tryz.builtOrd0 (fun i => bk.id.getD i 0) (fun i => tk.id.getD i 0) W Z bk.sum tk.sum ao n cap X
 rw [range32 bk.hid, range32 tk.hid] at h
 exact h
end

end Go.Proofs.YtmklodligplbaabGreat
