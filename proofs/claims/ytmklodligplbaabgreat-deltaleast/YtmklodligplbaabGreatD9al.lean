import Derived.Test.YtmklodligplbaabGreatD8yl
namespace Go.Proofs.YtmklodligplbaabGreat
section
open Go.RowKit
open Dlt
set_option linter.unusedVariables false
set_option linter.unusedSimpArgs false
theorem wpList_appendRun8 {ops : Array Oper} {rest : List Oper} {o : Oper} {a : Act} {w : World} {Q : Exit → Act → World → Prop} (hgd : o.guard = none) (d s : Operand) (t : TypeId)
  (ho : o.op = .call { callee := .builtin .append, args := #[d, s], argTypes := #[t, t] }) (v u : Value) (hd : a.eval d = v) (hs : a.eval s = u) {v' : Value} {w' : World}
  (hr : (Builtin.append_ #[t, t] o.type #[v, u]).run Tryz.prog w = .ok v' w') (h : wpList Tryz.prog ops Q rest (a.put o.dst v') w') : wpList Tryz.prog ops Q (o :: rest) a w :=
 wpList_plain hgd fun _ hK => wp_append_run8 w d s t ho v u hd hs hr (hK _ _ h)
theorem Tryz.infoRun : (Tryz.prog.info? 116).map (·.size) = some 2 := by kernel_rfl
theorem Tryz.zeroRun (W : World) : (zeroValue 116).run Tryz.prog W = .ok (.agg #[.int .i64 0, .int .i64 0]) W := by kernel_rfl
set_option maxHeartbeats 1000000 in
theorem runLength_ok (f c z : Nat) (w : World) (h : c * z ≤ 4611686018427387904) :
  Calls Tryz.prog 70 #[.agg #[.int .i64 f, .int .i64 c], .int .i64 z] w fun e w' => e = .returned (.int .i64 (c * z : Nat)) ∧ Kept [] w w' := by
 have HK := hide ((Kept.refl [] w).alloc (.cells #[.int .i64 f, .int .i64 c] 116))
 have c1 : (w.alloc (.cells #[.int .i64 f, .int .i64 c] 116)).cell? ⟨w.heap.size, 1, none⟩ = some (.int .i64 c) := by rw [cell_of_row _ _ _ _ _ _ (heap_new w _)]; rfl
 have hmul : IntKind.i64.wrap ((c : Int) * (z : Int)) = ((c * z : Nat) : Int) := by
  have e : ((c : Int) * (z : Int)) = ((c * z : Nat) : Int) := by simp
  rw [e]
  generalize c * z = m at h
  simp [IntKind.wrap, IntKind.bits, IntKind.signed]; omega
 clear h
 go_enter Tryz.func70, Tryz.ntmps70
 go_wp2
 go_ret
 exact ⟨rfl, HK.out⟩
theorem InsAt.blk {w0 w : World} {v : Value} {L : List Stp} (h : InsAt w0 w v L) {g : Nat} (hg : v.ownBlock = some g) : g < w.heap.size := by
 obtain ⟨vals, h1, _⟩ := h.out
 exact (own_blk h1 hg).2.1
set_option maxHeartbeats 6400000 in
set_option maxRecDepth 100000 in
theorem instructions_ok (s : Sig) (Z : Nat) (ao : Option Addr) (n cap : Nat) (to : Option Addr) (tn tc : Nat) (ys : List UInt8) (w : World) (hI : SigIn w s ao n cap) (hn : n ≤ 1000000) (hz : s.size = (Z : Nat)) (hZ1 : 1 ≤ Z) (hZ2 : Z ≤ 4096) (hyl : ys.length = tn) (hyc : tn ≤ tc) (hys : Sl w to ys) (hym : tn ≤ 1000000) :
  Calls Tryz.prog 29 #[.agg (s.cells (.slice ao n cap)).toArray, .slice to tn tc] w fun e w' => ∃ v w0, e = .returned v ∧ InsAt w0 w' v (ins s.width Z s.blocks [] ys) ∧ Kept [] w w0 ∧ Kept [] w0 w' := by
 have hzf := Tryz.zeroFd
 have hA := SigAt.new w s (.slice ao n cap)
 have k1 : Kept [] w (w.alloc (.cells (s.cells (.slice ao n cap)).toArray 26)) := (Kept.refl [] w).alloc _
 have hrg := hA.range
 have hil := Tryz.infoSig s (.slice ao n cap)
 have hfo := finderOf_ok s ao n cap _ (hI.kept k1) hn
 rw [hz] at hfo
 have HIN := hide (And.intro hI (And.intro hyl (And.intro hyc (And.intro hys k1))))
 clear hA k1 hI hyl hyc hys
 go_enter Tryz.func29, Tryz.ntmps29
 go_upto_region 2 with (first
  | refine wpList_load_mid rfl 26 (.tmp 2) rfl w.heap.size 0 rfl (s.cells (.slice ao n cap)) _ hrg Tryz.underlying26 rfl hil ?_
  | (go_at_call 67; refine hfo.mono ?_; clear hfo; rintro e w2 ⟨M, rfl, ⟨KI, VI, hFm⟩, hk2⟩; have HFM := hide (And.intro hFm hk2); have hnf := heap_new w2 (.cells (fdC 0 0 none 0 0 none).toArray 109); clear hFm hk2 hrg hil)
  | refine wpList_store_rowTo rfl 109 (.tmp 5) (.tmp 12) rfl rfl w2.heap.size (fdC s.width Z ao n cap (some M)).toArray rfl rfl 109 (fdC 0 0 none 0 0 none).toArray hnf (Tryz.infoFdA _ _ _ _ _ _) rfl (fd_all _ _ _ _ _ _) ?_)
 have k4 : Kept [] w2 ((w2.alloc (.cells (fdC 0 0 none 0 0 none).toArray 109)).setRow w2.heap.size (fdC s.width Z ao n cap (some M)).toArray) := ((Kept.refl [] _).alloc _).trans (kept_row _ _ _) (by simp)
 have hF0 : FdAt ((w2.alloc (.cells (fdC 0 0 none 0 0 none).toArray 109)).setRow w2.heap.size (fdC s.width Z ao n cap (some M)).toArray) w2.heap.size s.width Z ao n cap M := ⟨setRow_heap _ _ _ _ _ _ hnf⟩
 have HS : Hid (Kept [] w ((w2.alloc (.cells (fdC 0 0 none 0 0 none).toArray 109)).setRow w2.heap.size (fdC s.width Z ao n cap (some M)).toArray) ∧ Fm ((w2.alloc (.cells (fdC 0 0 none 0 0 none).toArray 109)).setRow w2.heap.size (fdC s.width Z ao n cap (some M)).toArray) (w.alloc (.cells (s.cells (.slice ao n cap)).toArray 26)).heap.size M s.blocks n KI VI ∧ FdAt ((w2.alloc (.cells (fdC 0 0 none 0 0 none).toArray 109)).setRow w2.heap.size (fdC s.width Z ao n cap (some M)).toArray) w2.heap.size s.width Z ao n cap M) := ⟨((HIN.out.2.2.2.2.trans HFM.out.2 (by simp)).trans k4 (by simp)), HFM.out.1.kept k4, hF0⟩
 clear k4 hF0 hnf HFM
 generalize (w2.alloc (.cells (fdC 0 0 none 0 0 none).toArray 109)).setRow w2.heap.size (fdC s.width Z ao n cap (some M)).toArray = w3 at HS ⊢
 generalize w2.heap.size = Fb at HS ⊢
 generalize w.heap.size = G
 clear w2 hzf
 go_wp2
 go_loopw [6, 7] (fun x y wr => ∃ (lo : Option Addr) (ln lc : Nat) (acc : List Stp) (po : Option Addr) (pn pc : Nat) (zs : List UInt8), x = .slice lo ln lc ∧ y = .slice po pn pc ∧ ln ≤ 2050 ∧ pn ≤ 1000000 ∧ Hid (acc.length = ln ∧ InsAt w3 wr (.slice lo ln lc) acc ∧ Kept [] w3 wr ∧ zs.length = pn ∧ pn ≤ pc ∧ Sl w3 po zs ∧ ins s.width Z s.blocks [] ys = ins s.width Z s.blocks acc zs)) (fun x y wr => (match y with | .slice _ n _ => n | _ => 0))
 case atStart => exact ⟨none, 0, 0, [], to, tn, tc, ys, rfl, rfl, by omega, hym, rfl, InsAt.nil _ _, Kept.refl _ _, HIN.out.2.1, HIN.out.2.2.1, HIN.out.2.2.2.1.kept HS.out.1 (by simp), rfl⟩
 case round =>
  obtain ⟨lo, ln, lc, acc, po, pn, pc, zs, rfl, rfl, hln, hpn, HP⟩ := hrel
  by_cases hp0 : pn = 0
  ·subst hp0
   have HR : Hid (ins s.width Z s.blocks [] ys = acc) := by
    show _ = _
    rw [HP.out.2.2.2.2.2.2]
    exact ins_stop (.inl (List.length_eq_zero_iff.1 HP.out.2.2.2.1))
   go_wp2
   go_ret
   exact ⟨_, w3, rfl, by rw [HR.out]; exact HP.out.2.1, HS.out.1, HP.out.2.2.1⟩
  ·have hp1 : 0 < pn := by omega
   by_cases hl : 2048 < ln
   ·have HR : Hid (ins s.width Z s.blocks [] ys = acc) := by
     show _ = _
     rw [HP.out.2.2.2.2.2.2]
     exact ins_stop (.inr (by rw [HP.out.1]; exact hl))
    go_wp2
    go_ret
    exact ⟨_, w3, rfl, by rw [HR.out]; exact HP.out.2.1, HS.out.1, HP.out.2.2.1⟩
   ·have hl2 : ln ≤ 2048 := by omega
    have hFr := HS.out.2.2.kept HP.out.2.2.1 (by simp)
    have hrg := hFr.range
    have hnx := next_ok s.width Z ao n cap M s.blocks po pn pc zs wr _ KI VI HIN.out.1.len hn HIN.out.1.le (HIN.out.1.at_.kept (HS.out.1.trans HP.out.2.2.1 (by simp)) (by simp)) (HS.out.2.1.kept HP.out.2.2.1) HP.out.2.2.2.1 HP.out.2.2.2.2.1 (HP.out.2.2.2.2.2.1.kept HP.out.2.2.1 (by simp)) hpn hZ1 hZ2
    have HNL := hide (nextI_le s.width Z s.blocks zs)
    have HGO := hide (fun h : zs.drop (nextI s.width Z s.blocks zs).1 ≠ [] => ins_go (acc := acc) (wd := s.width) (L := s.blocks) hZ1 (by rintro rfl; simp at h) (by rw [HP.out.1]; exact hl2) h)
    have HNC := hide (fun h : (nextI s.width Z s.blocks zs).1 < zs.length => next_cnt (wd := s.width) (L := s.blocks) hZ1 h)
    have HEN := hide (fun h : zs.drop (nextI s.width Z s.blocks zs).1 = [] => ins_end (acc := acc) (wd := s.width) (Z := Z) (L := s.blocks) (by rintro rfl; have := HP.out.2.2.2.1; simp at this; omega) (by rw [HP.out.1]; exact hl2) h)
    have HF4 := hide hFr
    clear hFr
    obtain ⟨a, f, haf⟩ : ∃ a f, nextI s.width Z s.blocks zs = (a, f) := ⟨_, _, rfl⟩
    rw [haf] at hnx HNL HGO HNC HEN
    simp only at hnx HNL HGO HNC HEN
    have han : a ≤ pn := by have := HNL.out; rw [HP.out.2.2.2.1] at this; exact this
    clear haf HNL
    have hilF := Tryz.infoFd
    go_upto_region 6 with (first
     | refine wpList_load_mid rfl 109 (.tmp 5) rfl Fb 0 rfl (fdC s.width Z ao n cap (some M)) _ hrg Tryz.underlying109 rfl hilF ?_
     | (go_at_call 68; refine hnx.mono ?_; clear hnx; rintro e w4 ⟨rfl, hk4⟩; have HK4 := hide hk4; clear hk4 hrg))
    by_cases ha : a = 0
    ·have HT : Hid (InsAt w3 w4 (.slice lo ln lc) acc ∧ Kept [] w3 w4 ∧ acc.length = ln ∧ accL acc zs a = acc) := ⟨HP.out.2.1.kept HK4.out, HP.out.2.2.1.trans HK4.out (by simp), HP.out.1, by unfold accL; rw [if_neg (by omega)]⟩
     have hl3 : ln ≤ 2049 := by omega
     subst ha
     simp only [List.drop_zero] at HGO HNC HEN
     go_upto_region 8 with (fail)
     have HSD := hide HP.out.2.2.2.2.2.1
     have HDL : Hid (zs.length = pn ∧ pn ≤ pc) := ⟨HP.out.2.2.2.1, HP.out.2.2.2.2.1⟩
     have hlt : 0 < zs.length := by rw [HP.out.2.2.2.1]; omega
     have hne : zs ≠ [] := fun h => by have := congrArg List.length h; rw [HP.out.2.2.2.1] at this; simp at this; omega
     obtain ⟨hf, hc1⟩ := HNC.out hlt
     have hcl := cntW_le s.width Z (s.blocks.drop f) zs
     have hfn : f ≤ n := by have := HIN.out.1.len; omega
     have hct := count_ok s.width Z ao n cap M s.blocks po pn pc zs f w4 HIN.out.1.len hn HIN.out.1.le (HIN.out.1.at_.kept (HS.out.1.trans HT.out.2.1 (by simp)) (by simp)) HDL.out.1 HDL.out.2 (HSD.out.kept HT.out.2.1 (by simp)) (by omega) hfn hZ1 hZ2
     have HG2 : Hid (ins s.width Z s.blocks [] ys = ins s.width Z s.blocks (acc ++ [.copy f (cntW s.width Z (s.blocks.drop f) zs)]) (zs.drop (cntW s.width Z (s.blocks.drop f) zs * Z))) := by
      show _ = _
      rw [HP.out.2.2.2.2.2.2, HGO.out hne, HT.out.2.2.2]
     rw [HDL.out.1] at hcl
     generalize cntW s.width Z (s.blocks.drop f) zs = c at hct HG2 hc1 hcl
     have hF5 := HS.out.2.2.kept HT.out.2.1 (by simp)
     have hrg := hF5.range
     obtain ⟨hcl1, hcl2⟩ := hcl
     clear hcl1 hf hF5 HGO HEN HNC hne
     have HLT : Hid (pn ≤ pn) := by show _ ≤ _; omega
     have hp9 : 0 < pn := by omega
     have HDD := hide hpn
     have HC1 := hide hc1
     clear hc1
     have hzr := Tryz.zeroRun
     go_upto_region 11 with (first
      | refine wpList_load_mid rfl 109 (.tmp 5) rfl Fb 0 rfl (fdC s.width Z ao n cap (some M)) _ hrg Tryz.underlying109 rfl hilF ?_
      | (go_at_call 69; refine hct.mono ?_; clear hct; rintro e w6 ⟨rfl, hk6⟩; have HK6 := hide hk6; have hnr := heap_new w6 (.cells #[.int .i64 0, .int .i64 0] 116); clear hk6 hrg)
      | refine wpList_store_rowTo rfl 116 (.tmp 10) (.tmp 48) rfl rfl w6.heap.size #[.int .i64 f, .int .i64 c] rfl rfl 116 #[.int .i64 0, .int .i64 0] hnr Tryz.infoRun rfl rfl ?_)
     have HK7 := hide (HK6.out.alloc (.cells #[.int .i64 f, .int .i64 c] 116))
     have hrow := heap_new w6 (.cells #[.int .i64 f, .int .i64 c] 116)
     have HIN7 := hide (HT.out.1.kept HK7.out)
     have HIB := hide (fun g hg => (HT.out.1.kept HK6.out).blk (g := g) hg)
     clear hnr hzr
     obtain ⟨w7, hw7⟩ : ∃ w7, w6.alloc (.cells #[.int .i64 f, .int .i64 c] 116) = w7 := ⟨_, rfl⟩
     rw [hw7] at HK7 hrow HIN7 ⊢
     obtain ⟨R, hR⟩ : ∃ R, w6.heap.size = R := ⟨_, rfl⟩
     rw [hR] at hrow HIB ⊢
     clear hw7 hR
     have r0 : w7.cell? ⟨R, 0, none⟩ = some (.int .i64 f) := by rw [cell_of_row _ _ _ _ _ _ hrow]; rfl
     have r1 : w7.cell? ⟨R, 1, none⟩ = some (.int .i64 c) := by rw [cell_of_row _ _ _ _ _ _ hrow]; rfl
     obtain ⟨v2, w8, hap2, hin2, hk8, hk8'⟩ := HIN7.out.add (by rw [HT.out.2.2.1]; omega) (HT.out.2.1.trans HK7.out (by simp)) (w7.alloc (.cells #[.iface 116 (.agg #[.int .i64 f, .int .i64 c])] 129)) ((Kept.refl [] w7).alloc _) w7.heap.size (.copy f c) (.iface 116 (.agg #[.int .i64 f, .int .i64 c])) rfl (by rw [cell_of_row _ _ _ _ _ _ (heap_new w7 _)]; rfl)
     have hrow8 : w8.heap[R]? = some (.cells #[.int .i64 f, .int .i64 c] 116 (0, 0)) := by
      have hRl := (Array.getElem?_eq_some_iff.1 hrow).1
      rw [hk8.block R (by rw [World.size_alloc]; omega) (fun hm => by have := HIB.out R (by simpa using hm); omega)]
      exact (((Kept.refl [] w7).alloc _).block R hRl (by simp)).trans hrow
     obtain ⟨lo2, lc2, rfl, _⟩ := hin2.shape
     rw [List.length_append, List.length_singleton, HT.out.2.2.1] at hap2 hin2
     have HT8 := hide (And.intro hin2 hk8')
     have c1 := (HS.out.2.2.kept hk8' (by simp)).c (j := 1) (u := .int .i64 Z) rfl
     clear hin2 hk8 hk8' HIN7 hrow
     go_upto_region 12 with (refine wpList_appendRun8 rfl _ _ 67 rfl _ _ rfl rfl hap2 ?_)
     clear hap2 r0 r1
     have q0 : w8.cell? ⟨R, 0, none⟩ = some (.int .i64 f) := by rw [cell_of_row _ _ _ _ _ _ hrow8]; rfl
     have q1 : w8.cell? ⟨R, 1, none⟩ = some (.int .i64 c) := by rw [cell_of_row _ _ _ _ _ _ hrow8]; rfl
     have hrl := runLength_ok f c Z w8 (by have := HLT.out; omega)
     have HM1 : Hid (1 ≤ c * Z) := by have : 1 * 1 ≤ c * Z := Nat.mul_le_mul HC1.out hZ1; show 1 ≤ _; omega
     generalize c * Z = m at hrl hcl2 HM1 HG2
     obtain ⟨so, hcg, hse⟩ := cut_from8 po pn pc m hcl2 HDL.out.2
     have HSE := hide (hse w3 zs HDL.out.1 HSD.out)
     clear hse hrow8
     go_wp2_with (go_at_call 70; refine hrl.mono ?_; clear hrl; rintro e w9 ⟨rfl, hk9⟩; have HK9 := hide hk9; clear hk9)
     go_roundw
     case rel => exact ⟨lo2, ln + 1, lc2, acc ++ [.copy f c], so, pn - m, pc - m, zs.drop m, rfl, rfl, by omega, by have := HLT.out; omega, by rw [List.length_append, List.length_singleton, HT.out.2.2.1], HT8.out.1.kept HK9.out, HT8.out.2.trans HK9.out (by simp), by rw [List.length_drop, HDL.out.1], by have := HDL.out.2; omega, HSE.out, HG2.out⟩
     case measure =>
      have h1 := HM1.out
      have h2 := HLT.out
      simp
      omega
    ·have ha0 : (0 : Int) < (a : Int) := by omega
     have HA : Hid (0 < a) := Nat.pos_of_ne_zero ha
     clear ha
     obtain ⟨qo, hcf, hsd⟩ := cut_from8 po pn pc a han HP.out.2.2.2.2.1
     have HSD := hide (hsd w3 zs HP.out.2.2.2.1 HP.out.2.2.2.2.2.1)
     have HDL : Hid ((zs.drop a).length = pn - a ∧ pn - a ≤ pc - a) := ⟨by rw [List.length_drop, HP.out.2.2.2.1], by have := HP.out.2.2.2.2.1; omega⟩
     clear hsd
     have hct := fun W => Tryz.cutTo W po pn pc a (by have := HP.out.2.2.2.2.1; omega)
     obtain ⟨v1, w5, hap, hin, hk5, hk5'⟩ := (HP.out.2.1.kept HK4.out).add (by rw [HP.out.1]; omega) (HP.out.2.2.1.trans HK4.out (by simp)) (w4.alloc (.cells #[.iface 113 (.slice po a pc)] 129)) ((Kept.refl [] w4).alloc _) w4.heap.size (.lit (zs.take a)) (.iface 113 (.slice po a pc)) ⟨po, a, pc, rfl, by rw [List.length_take, HP.out.2.2.2.1]; omega, by have := HP.out.2.2.2.2.1; omega, HP.out.2.2.2.2.2.1.take a⟩ (by rw [cell_of_row _ _ _ _ _ _ (heap_new w4 _)]; rfl)
     obtain ⟨lo1, lc1, rfl, _⟩ := hin.shape
     rw [List.length_append, List.length_singleton, HP.out.1] at hap hin
     have HT : Hid (InsAt w3 w5 (.slice lo1 (ln + 1) lc1) (acc ++ [.lit (zs.take a)]) ∧ Kept [] w3 w5 ∧ (acc ++ [Stp.lit (zs.take a)]).length = ln + 1 ∧ accL acc zs a = acc ++ [.lit (zs.take a)]) := ⟨hin, hk5', by rw [List.length_append, List.length_singleton, HP.out.1], by unfold accL; rw [if_pos HA.out]⟩
     clear hin hk5 hk5'
     go_upto_region 8 with (refine wpList_appendRun8 rfl _ _ 67 rfl _ _ rfl rfl hap ?_)
     clear hap hct
     have hl3 : ln + 1 ≤ 2049 := by omega
     by_cases he : a = pn
     ·have HR : Hid (ins s.width Z s.blocks [] ys = (acc ++ [Stp.lit (zs.take a)])) := by
       show _ = _
       rw [HP.out.2.2.2.2.2.2, HEN.out (List.drop_of_length_le (by rw [HP.out.2.2.2.1]; omega)), HT.out.2.2.2]
      obtain ⟨rn, hrn⟩ : ∃ rn, pn - a = rn := ⟨_, rfl⟩
      rw [hrn] at hcf
      have hr0 : rn = 0 := by omega
      clear hrn he
      subst hr0
      go_wp2
      go_ret
      exact ⟨_, w3, rfl, by rw [HR.out]; exact HT.out.1, HS.out.1, HT.out.2.1⟩
     ·have hlt : a < zs.length := by rw [HP.out.2.2.2.1]; omega
      have hne : (zs.drop a) ≠ [] := fun h => by have := congrArg List.length h; rw [List.length_drop] at this; simp at this; omega
      obtain ⟨hf, hc1⟩ := HNC.out hlt
      have hcl := cntW_le s.width Z (s.blocks.drop f) (zs.drop a)
      have hfn : f ≤ n := by have := HIN.out.1.len; omega
      have hct := count_ok s.width Z ao n cap M s.blocks qo (pn - a) (pc - a) (zs.drop a) f w5 HIN.out.1.len hn HIN.out.1.le (HIN.out.1.at_.kept (HS.out.1.trans HT.out.2.1 (by simp)) (by simp)) HDL.out.1 HDL.out.2 (HSD.out.kept HT.out.2.1 (by simp)) (by omega) hfn hZ1 hZ2
      have HG2 : Hid (ins s.width Z s.blocks [] ys = ins s.width Z s.blocks ((acc ++ [Stp.lit (zs.take a)]) ++ [.copy f (cntW s.width Z (s.blocks.drop f) (zs.drop a))]) ((zs.drop a).drop (cntW s.width Z (s.blocks.drop f) (zs.drop a) * Z))) := by
       show _ = _
       rw [HP.out.2.2.2.2.2.2, HGO.out hne, HT.out.2.2.2]
      rw [HDL.out.1] at hcl
      generalize cntW s.width Z (s.blocks.drop f) (zs.drop a) = c at hct HG2 hc1 hcl
      have hF5 := HS.out.2.2.kept HT.out.2.1 (by simp)
      have hrg := hF5.range
      obtain ⟨hcl1, hcl2⟩ := hcl
      clear hcl1 hf hF5 HGO HEN HNC hne
      have HLT : Hid ((pn - a) ≤ pn) := by show _ ≤ _; omega
      have hp9 : 0 < (pn - a) := by omega
      obtain ⟨rn, hrn⟩ : ∃ rn, pn - a = rn := ⟨_, rfl⟩
      obtain ⟨rc, hrc⟩ : ∃ rc, pc - a = rc := ⟨_, rfl⟩
      rw [hrn] at hcf hct hcl2 hp9 HDL HLT
      rw [hrc] at hcf hct HDL
      clear hrn hrc he
      have HC1 := hide hc1
      clear hc1
      have hzr := Tryz.zeroRun
      go_upto_region 11 with (first
       | refine wpList_load_mid rfl 109 (.tmp 5) rfl Fb 0 rfl (fdC s.width Z ao n cap (some M)) _ hrg Tryz.underlying109 rfl hilF ?_
       | (go_at_call 69; refine hct.mono ?_; clear hct; rintro e w6 ⟨rfl, hk6⟩; have HK6 := hide hk6; have hnr := heap_new w6 (.cells #[.int .i64 0, .int .i64 0] 116); clear hk6 hrg)
       | refine wpList_store_rowTo rfl 116 (.tmp 10) (.tmp 48) rfl rfl w6.heap.size #[.int .i64 f, .int .i64 c] rfl rfl 116 #[.int .i64 0, .int .i64 0] hnr Tryz.infoRun rfl rfl ?_)
      have HK7 := hide (HK6.out.alloc (.cells #[.int .i64 f, .int .i64 c] 116))
      have hrow := heap_new w6 (.cells #[.int .i64 f, .int .i64 c] 116)
      have HIN7 := hide (HT.out.1.kept HK7.out)
      have HIB := hide (fun g hg => (HT.out.1.kept HK6.out).blk (g := g) hg)
      clear hnr hzr
      obtain ⟨w7, hw7⟩ : ∃ w7, w6.alloc (.cells #[.int .i64 f, .int .i64 c] 116) = w7 := ⟨_, rfl⟩
      rw [hw7] at HK7 hrow HIN7 ⊢
      obtain ⟨R, hR⟩ : ∃ R, w6.heap.size = R := ⟨_, rfl⟩
      rw [hR] at hrow HIB ⊢
      clear hw7 hR
      have r0 : w7.cell? ⟨R, 0, none⟩ = some (.int .i64 f) := by rw [cell_of_row _ _ _ _ _ _ hrow]; rfl
      have r1 : w7.cell? ⟨R, 1, none⟩ = some (.int .i64 c) := by rw [cell_of_row _ _ _ _ _ _ hrow]; rfl
      obtain ⟨v2, w8, hap2, hin2, hk8, hk8'⟩ := HIN7.out.add (by rw [HT.out.2.2.1]; omega) (HT.out.2.1.trans HK7.out (by simp)) (w7.alloc (.cells #[.iface 116 (.agg #[.int .i64 f, .int .i64 c])] 129)) ((Kept.refl [] w7).alloc _) w7.heap.size (.copy f c) (.iface 116 (.agg #[.int .i64 f, .int .i64 c])) rfl (by rw [cell_of_row _ _ _ _ _ _ (heap_new w7 _)]; rfl)
      have hrow8 : w8.heap[R]? = some (.cells #[.int .i64 f, .int .i64 c] 116 (0, 0)) := by
       have hRl := (Array.getElem?_eq_some_iff.1 hrow).1
       rw [hk8.block R (by rw [World.size_alloc]; omega) (fun hm => by have := HIB.out R (by simpa using hm); omega)]
       exact (((Kept.refl [] w7).alloc _).block R hRl (by simp)).trans hrow
      obtain ⟨lo2, lc2, rfl, _⟩ := hin2.shape
      rw [List.length_append, List.length_singleton, HT.out.2.2.1] at hap2 hin2
      have HT8 := hide (And.intro hin2 hk8')
      have c1 := (HS.out.2.2.kept hk8' (by simp)).c (j := 1) (u := .int .i64 Z) rfl
      clear hin2 hk8 hk8' HIN7 hrow
      go_upto_region 12 with (refine wpList_appendRun8 rfl _ _ 67 rfl _ _ rfl rfl hap2 ?_)
      clear hap2 r0 r1
      have q0 : w8.cell? ⟨R, 0, none⟩ = some (.int .i64 f) := by rw [cell_of_row _ _ _ _ _ _ hrow8]; rfl
      have q1 : w8.cell? ⟨R, 1, none⟩ = some (.int .i64 c) := by rw [cell_of_row _ _ _ _ _ _ hrow8]; rfl
      have hrl := runLength_ok f c Z w8 (by have := HLT.out; omega)
      have HM1 : Hid (1 ≤ c * Z) := by have : 1 * 1 ≤ c * Z := Nat.mul_le_mul HC1.out hZ1; show 1 ≤ _; omega
      generalize c * Z = m at hrl hcl2 HM1 HG2
      obtain ⟨so, hcg, hse⟩ := cut_from8 qo rn rc m hcl2 HDL.out.2
      have HSE := hide (hse w3 (zs.drop a) HDL.out.1 HSD.out)
      clear hse hrow8
      go_wp2_with (go_at_call 70; refine hrl.mono ?_; clear hrl; rintro e w9 ⟨rfl, hk9⟩; have HK9 := hide hk9; clear hk9)
      go_roundw
      case rel => exact ⟨lo2, (ln + 1) + 1, lc2, (acc ++ [Stp.lit (zs.take a)]) ++ [.copy f c], so, rn - m, rc - m, (zs.drop a).drop m, rfl, rfl, by omega, by have := HLT.out; omega, by rw [List.length_append, List.length_singleton, HT.out.2.2.1], HT8.out.1.kept HK9.out, HT8.out.2.trans HK9.out (by simp), by rw [List.length_drop, HDL.out.1], by have := HDL.out.2; omega, HSE.out, HG2.out⟩
      case measure =>
       have h1 := HM1.out
       have h2 := HLT.out
       simp
       omega
end

section
open Go.RowKit
open Dlt
set_option linter.unusedVariables false
set_option linter.unusedSimpArgs false
theorem Tryz.zeroSeal (W : World) : (zeroValue 71).run Tryz.prog W = .ok (.agg zeroK) W := by kernel_rfl
theorem Tryz.infoSealS : (Tryz.prog.info? 71).map (·.size) = some 33 := by kernel_rfl
theorem Tryz.builtSeal0 (f : Nat → UInt8) (x : Int) (W : World) : (Instr.build 71 #[(0, .int .i64 x), (1, .agg (bys ((List.range 32).map f)).toArray)]).run Tryz.prog W = .ok (.agg (.int .i64 x :: bys ((List.range 32).map f)).toArray) W := by kernel_rfl
theorem Tryz.builtSeal (k : Wk) (W : World) : (Instr.build 71 #[(0, .int .i64 k.sum), (1, .agg (bys k.id).toArray)]).run Tryz.prog W = .ok (.agg k.cells.toArray) W := by
 have h := Tryz.builtSeal0 (fun i => k.id.getD i 0) k.sum W
 rw [range32 k.hid] at h
 exact h
set_option maxHeartbeats 3200000 in
set_option maxRecDepth 100000 in
theorem sealOf_ok (width : Int) (ao : Option Addr) (n cap : Nat) (xs : List UInt8) (w : World) (k : Wk) (hsum : k.sum = (n : Int)) (hid : k.id = Sha.ident width xs) (hn : xs.length = n) (hc : n ≤ cap) (hs : Sl w ao xs) (hm : n ≤ 4611686018427387904) :
  Calls Tryz.prog 31 #[.int .i64 width, .slice ao n cap] w fun e w' => e = .returned (.agg k.cells.toArray) ∧ Kept [] w w' := by
 have hz := Tryz.zeroSeal
 have hnz : (w.alloc (.cells zeroK 71)).heap[w.heap.size]? = some (.cells zeroK 71 (0, 0)) := heap_new w _
 have hK0 : Kept [] w (w.alloc (.cells zeroK 71)) := (Kept.refl [] w).alloc _
 have hs0 := hs.kept hK0 (by simp)
 have hof := of_one width ao n cap xs (w.alloc (.cells zeroK 71)) hn hc hs0 hm
 obtain ⟨R, hR⟩ : ∃ R, w.heap.size = R := ⟨_, rfl⟩
 have hRl : R < (w.alloc (.cells zeroK 71)).heap.size := by rw [← hR]; simp
 rw [hR] at hnz
 have HB := Tryz.builtSeal k
 have hial : (Tryz.prog.info? 71).map (·.size) = some k.cells.toArray.size := by rw [wk_size]; exact Tryz.infoSealS
 have hzs : zeroK.size = k.cells.toArray.size := by rw [wk_size]; rfl
 have hall := wk_all k
 simp only [hsum, hid] at HB
 clear hsum hid hn hc hs hs0 hm
 go_enter Tryz.func31, Tryz.ntmps31
 go_upto_region 1 with (fail)
 have HR := hide hR
 clear hR
 generalize w.alloc (.cells zeroK 71) = w0 at *
 go_wp2_with (first
  | (go_at_call 45; refine hof.mono ?_; rintro r w2 ⟨rfl, hk2⟩; have H2 := hide hk2; have hn2 : w2.heap[R]? = some (.cells zeroK 71 (0, 0)) := (hk2.block _ hRl (by simp)).trans hnz; clear hof hk2)
  | refine wpList_buildRun8 rfl 71 #[(0, .tmp 6), (1, .tmp 10)] rfl #[(0, .int .i64 n), (1, .agg (bys (Sha.ident width xs)).toArray)] (by simp [Act.eval]) _ (HB _) ?_
  | refine wpList_store_rowTo rfl 71 (.tmp 4) (.tmp 11) rfl rfl R k.cells.toArray rfl rfl 71 zeroK hn2 hial hzs hall ?_)
 have hKF : Kept [] w (w2.setRow R k.cells.toArray) := (hK0.trans H2.out (by simp)).trans (kept_row w2 R _) (by have := HR.out; simp; omega)
 exact ret_row rfl rfl R 71 k.cells.toArray (0, 0) _ rfl (setRow_heap _ _ _ _ _ _ hn2) Tryz.underlying71 rfl hial ⟨rfl, hKF⟩
theorem Tryz.isRun (v : Value) (w : World) : (Instr.typeAssert (.iface 116 v) 129 116 true).run Tryz.prog w = .ok (.tuple #[v, .bool true]) w := by kernel_rfl
theorem Tryz.isLit (v : Value) (w : World) : (Instr.typeAssert (.iface 113 v) 129 113 true).run Tryz.prog w = .ok (.tuple #[v, .bool true]) w := by kernel_rfl
theorem Tryz.notRun (v : Value) (w : World) : (Instr.typeAssert (.iface 113 v) 129 116 true).run Tryz.prog w = .ok (.tuple #[.agg #[.int .i64 0, .int .i64 0], .bool false]) w := by kernel_rfl
def okW : Stp → Prop
 | .copy f c => f ≤ 1000000 ∧ c ≤ 1000000
 | .lit bs => bs ≠ [] ∧ bs.length ≤ 1000000
set_option maxHeartbeats 3200000 in
set_option maxRecDepth 100000 in
theorem writeInstruction_ok {w0 w : World} {B : Nat} {ys : List UInt8} (h : Wq w0 w B ys) (s : Stp) (v : Value) (hv : StpV w0 s v) (hl : ys.length ≤ 10000000) (hb : okW s) :
  Calls Tryz.prog 74 #[.pointer (some ⟨B, 0, none⟩), v] w fun e w' => e = .returned (.tuple #[]) ∧ Wq w0 w' B (ys ++ encI s) ∧ Kept [B] w w' := by
 cases s with
 | copy f c =>
  obtain rfl : v = .iface 116 (.agg #[.int .i64 (f : Nat), .int .i64 (c : Nat)]) := hv
  obtain ⟨hf, hc⟩ := hb
  have hta := Tryz.isRun (.agg #[.int .i64 (f : Nat), .int .i64 (c : Nat)])
  have hzr := Tryz.zeroRun
  have hk1 : Kept [] w (w.alloc (.cells #[.int .i64 f, .int .i64 c] 116)) := (Kept.refl [] w).alloc _
  have hq1 := h.later hk1
  have hrow := heap_new w (.cells #[.int .i64 f, .int .i64 c] 116)
  have hfx := fixed_q hq1 1 1 (by omega) (by omega) (by omega) (by omega)
  have hRB : w.heap.size ≠ B := by have := h.lt; omega
  obtain ⟨R, hR⟩ : ∃ R, w.heap.size = R := ⟨_, rfl⟩
  rw [hR] at hrow hRB
  have HK1 := hide hk1
  clear hk1 hq1 h
  go_enter Tryz.func74, Tryz.ntmps74
  go_upto_region 3 with (fail)
  clear hR
  generalize w.alloc (.cells #[.int .i64 f, .int .i64 c] 116) = w1 at *
  have HRW := hide hrow
  clear hrow hta hzr
  go_upto_region 4 with (go_at_call 71; refine hfx.mono ?_; rintro r w2 ⟨rfl, hq2, hk2⟩; clear hfx)
  have hr2 := (hk2.block R (Array.getElem?_eq_some_iff.1 HRW.out).1 (by simpa using hRB)).trans HRW.out
  have hn1 := number_q hq2 f (by omega) (by rw [List.length_append, Pure.fix_len]; omega)
  have c0 : w2.cell? ⟨R, 0, none⟩ = some (.int .i64 f) := by rw [cell_of_row _ _ _ _ _ _ hr2]; rfl
  have HR2 := hide hr2
  have HK2 := hide hk2
  clear hr2 hk2 hq2
  go_upto_region 5 with (go_at_call 72; refine hn1.mono ?_; rintro r w3 ⟨rfl, hq3, hk3⟩; clear hn1)
  have hr3 := (hk3.block R (Array.getElem?_eq_some_iff.1 HR2.out).1 (by simpa using hRB)).trans HR2.out
  have e1 := Pure.enc_len5 (v := f) (by omega)
  have hn2 := number_q hq3 c (by omega) (by rw [List.length_append, List.length_append, Pure.fix_len]; omega)
  have c1 : w3.cell? ⟨R, 1, none⟩ = some (.int .i64 c) := by rw [cell_of_row _ _ _ _ _ _ hr3]; rfl
  have HK3 := hide hk3
  clear hr3 hk3 hq3 c0 e1
  go_wp2_with (go_at_call 72; refine hn2.mono ?_; rintro r w4 ⟨rfl, hq4, hk4⟩; have H4 := hide (And.intro hq4 hk4); clear hn2 hq4 hk4)
  refine bodyPost_end (results_none rfl _ _ _) rfl ⟨rfl, ?_, (((HK1.out.mono (by simp)).trans HK2.out (by simp)).trans HK3.out (by simp)).trans H4.out.2 (by simp)⟩
  have := H4.out.1
  simp only [List.append_assoc] at this
  simpa only [encI] using this
 | lit bs =>
  obtain ⟨ao, n, cap, rfl, hn, hc, hs⟩ := hv
  obtain ⟨hb0, hb'⟩ : bs ≠ [] ∧ bs.length ≤ 1000000 := hb
  have hta := Tryz.notRun (.slice ao n cap)
  have htb := Tryz.isLit (.slice ao n cap)
  have hfx := fixed_q h 2 1 (by omega) (by omega) (by omega) (by omega)
  have hfar : ∀ a, ao = some a → a.block ≠ B := by
   intro a ha
   obtain ⟨b, off, e, hcell⟩ := hs 0 (List.length_pos_iff.2 hb0)
   rw [ha] at e
   cases e
   have h1 : b < w0.heap.size := World.block_lt_of_cell? _ _ hcell
   have h2 := h.ge
   show b ≠ B
   omega
  have HIN := hide (And.intro hn (And.intro hc (And.intro hs (And.intro hfar hb'))))
  clear hn hc hs h hfar hb' hb0
  go_enter Tryz.func74, Tryz.ntmps74
  go_upto_region 9 with (go_at_call 71; refine hfx.mono ?_; rintro r w2 ⟨rfl, hq2, hk2⟩; clear hfx)
  have htx := text_q hq2 ao n cap bs HIN.out.1 (HIN.out.2.2.1.kept hq2.kp (by simp)) HIN.out.2.2.2.1 HIN.out.2.1 (by rw [List.length_append, Pure.fix_len]; omega) (by have := HIN.out.1; have := HIN.out.2.2.2.2; omega)
  have HK2 := hide hk2
  clear hk2 hq2 hta htb
  go_wp2_with (go_at_call 105; refine htx.mono ?_; rintro r w4 ⟨rfl, hq4, hk4⟩; have H4 := hide (And.intro hq4 hk4); clear htx hq4 hk4)
  refine bodyPost_end (results_none rfl _ _ _) rfl ⟨rfl, ?_, HK2.out.trans H4.out.2 (by simp)⟩
  have := H4.out.1
  simp only [List.append_assoc] at this
  simpa only [encI] using this
end

end Go.Proofs.YtmklodligplbaabGreat
