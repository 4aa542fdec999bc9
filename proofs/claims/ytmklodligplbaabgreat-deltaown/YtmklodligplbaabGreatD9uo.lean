import Derived.Test.YtmklodligplbaabGreatD9so
open Go.RowKit
set_option linter.unusedVariables false
set_option linter.unusedSimpArgs false
set_option maxRecDepth 100000
set_option maxHeartbeats 0
namespace Go.Proofs.YtmklodligplbaabGreat
section
open Dlt
theorem app_long (bo : Option Addr) (bn bc : Nat) (bs : List UInt8) (ao : Option Addr) (n cap : Nat) (xs : List UInt8) (w : World) (hb : InB8 w bo bn bc bs) (h : InB8 w ao n cap xs) (hl : 131072 < bn) :
  Calls Tryz.prog 16 #[.slice bo bn bc, .slice ao n cap] w fun e w' => TellB w w' e 2 [] ∧ Kept [] w w' := by
 have hmf : ∀ (fn : Fn) (first cap : Array Value) (w : World), (Instr.makeFunc fn first cap).run Tryz.prog w = .ok (.func fn first cap) w := fun _ _ _ _ => rfl
 have hzo := Tryz.zeroOrd
 have HB := hide hb
 have H := hide h
 clear hb h
 go_enter_defers Tryz.func16, Tryz.ntmps16
 go_upto_region 2 with (fail)
 obtain ⟨W0, hW0⟩ := nm ((w.alloc (.cells #[.slice none 0 0] 27)).alloc (.cells #[.int .i64 0] 29))
 rw [hW0]
 have kb : Kept [] w W0 := by rw [<-hW0]; exact ((Kept.refl [] w).alloc _).alloc _
 have sz : W0.heap.size = w.heap.size + 2 := by rw [<-hW0]; simp
 have cA : W0.cell? ⟨w.heap.size, 0, none⟩ = some (.slice none 0 0) := by rw [<-hW0]; simp [go_sem]
 have fA : W0.frozen? ⟨w.heap.size, 0, none⟩ = false := by rw [<-hW0]; simp [go_sem]
 have cB : W0.cell? ⟨w.heap.size + 1, 0, none⟩ = some (.int .i64 0) := by rw [<-hW0]; simp [go_sem]
 have fB : W0.frozen? ⟨w.heap.size + 1, 0, none⟩ = false := by rw [<-hW0]; simp [go_sem]
 clear hW0
 have cA2 := (Kept.refl [] W0).cellOf cA (by simp)
 have fA2 := ((Kept.refl [] W0).frozen (show w.heap.size < W0.heap.size by omega) (by simp)).trans fA
 have kA : Kept [w.heap.size] W0 (W0.setCell ⟨w.heap.size, 0, none⟩ (.slice none 0 0)) := (Kept.refl _ _).setCell (by simp) _
 have cB2 := kA.cellOf ((Kept.refl [] W0).cellOf cB (by simp)) (by simp)
 have fB2 := (kA.frozen (Nat.lt_of_lt_of_le (show w.heap.size + 1 < W0.heap.size by omega) (Kept.refl [] W0).size) (by simp)).trans (((Kept.refl [] W0).frozen (show w.heap.size + 1 < W0.heap.size by omega) (by simp)).trans fB)
 go_wp2
 refine leaves_cons (f := 48) (args := #[.pointer (some ⟨w.heap.size, 0, none⟩), .pointer (some ⟨w.heap.size + 1, 0, none⟩)]) (by simp) (by simp [go_sem]) ?_
 refine (acatch_idle w.heap.size (w.heap.size + 1) _).mono ?_
 rintro e u' w'' ⟨rfl, rfl, rfl⟩
 obtain ⟨W3, hW3⟩ := nm ((W0.setCell ⟨w.heap.size, 0, none⟩ (.slice none 0 0)).setCell ⟨w.heap.size + 1, 0, none⟩ (.int .i64 2))
 have kB : Kept [w.heap.size + 1] (W0.setCell ⟨w.heap.size, 0, none⟩ (.slice none 0 0)) W3 := by rw [<-hW3]; exact (Kept.refl _ _).setCell (by simp) _
 have eA : W3.cell? ⟨w.heap.size, 0, none⟩ = some ((.slice none 0 0)) := kB.cellOf (World.cell?_setCell_same _ _ _ cA2) (by simp)
 have eB : W3.cell? ⟨w.heap.size + 1, 0, none⟩ = some (.int .i64 2) := by rw [<-hW3]; exact World.cell?_setCell_same _ _ _ cB2
 have hK : Kept [] w W3 := ((kb.tr (Kept.refl [] W0)).tr kA).tr kB
 rw [hW3]
 have hres := fun (tm : Array Value) h2 h3 => app_results (tmps := tm) eA eB h2 h3
 simp [Leaves, settle, hres]
 exact ⟨⟨none, 0, rfl, World.ownsRow_nil _ _ _ _⟩, hK⟩
theorem app_none (bo : Option Addr) (bn bc : Nat) (bs : List UInt8) (ao : Option Addr) (n cap : Nat) (xs : List UInt8) (w : World) (hb : InB8 w bo bn bc bs) (h : InB8 w ao n cap xs) (hl : bn <= 131072) (hrd : ∀ W, InB8 W ao n cap xs -> Calls Tryz.prog 49 #[.slice ao n cap] W fun e w' => e = gaveUp8 ∧ Kept [] W w') :
  Calls Tryz.prog 16 #[.slice bo bn bc, .slice ao n cap] w fun e w' => TellB w w' e 180 [] ∧ Kept [] w w' := by
 have hmf : ∀ (fn : Fn) (first cap : Array Value) (w : World), (Instr.makeFunc fn first cap).run Tryz.prog w = .ok (.func fn first cap) w := fun _ _ _ _ => rfl
 have hzo := Tryz.zeroOrd
 have HB := hide hb
 have H := hide h
 clear hb h
 go_enter_defers Tryz.func16, Tryz.ntmps16
 go_upto_region 2 with (fail)
 obtain ⟨W0, hW0⟩ := nm ((w.alloc (.cells #[.slice none 0 0] 27)).alloc (.cells #[.int .i64 0] 29))
 rw [hW0]
 have kb : Kept [] w W0 := by rw [<-hW0]; exact ((Kept.refl [] w).alloc _).alloc _
 have sz : W0.heap.size = w.heap.size + 2 := by rw [<-hW0]; simp
 have cA : W0.cell? ⟨w.heap.size, 0, none⟩ = some (.slice none 0 0) := by rw [<-hW0]; simp [go_sem]
 have fA : W0.frozen? ⟨w.heap.size, 0, none⟩ = false := by rw [<-hW0]; simp [go_sem]
 have cB : W0.cell? ⟨w.heap.size + 1, 0, none⟩ = some (.int .i64 0) := by rw [<-hW0]; simp [go_sem]
 have fB : W0.frozen? ⟨w.heap.size + 1, 0, none⟩ = false := by rw [<-hW0]; simp [go_sem]
 clear hW0
 have hs13 : ¬ 131072 < bn := by omega
 have hro := hrd W0 (H.out.kept kb)
 clear hrd
 go_wp2_with (go_at_call 49; refine hro.mono ?_; rintro r w2 ⟨rfl, hk2⟩; have HK2 := hide hk2; clear hro hk2)
 have k2 := HK2.out
 have cA2 := (k2).cellOf cA (by simp)
 have fA2 := ((k2).frozen (show w.heap.size < W0.heap.size by omega) (by simp)).trans fA
 have kA : Kept [w.heap.size] w2 (w2.setCell ⟨w.heap.size, 0, none⟩ (.slice none 0 0)) := (Kept.refl _ _).setCell (by simp) _
 have cB2 := kA.cellOf ((k2).cellOf cB (by simp)) (by simp)
 have fB2 := (kA.frozen (Nat.lt_of_lt_of_le (show w.heap.size + 1 < W0.heap.size by omega) (k2).size) (by simp)).trans (((k2).frozen (show w.heap.size + 1 < W0.heap.size by omega) (by simp)).trans fB)
 have cB0 := (k2).cellOf cB (by simp)
 have fB0 := ((k2).frozen (show w.heap.size + 1 < W0.heap.size by omega) (by simp)).trans fB
 refine leaves_cons (f := 48) (args := #[.pointer (some ⟨w.heap.size, 0, none⟩), .pointer (some ⟨w.heap.size + 1, 0, none⟩)]) (by simp) (by simp [go_sem]) ?_
 refine (acatch_panicking w.heap.size (w.heap.size + 1) 0 _ _ _ [] w2 cA2 fA2 cB0 fB0 (by omega)).mono ?_
 rintro e u' w'' ⟨rfl, rfl, rfl⟩
 obtain ⟨W3, hW3⟩ := nm ((w2.setCell ⟨w.heap.size, 0, none⟩ (.slice none 0 0)).setCell ⟨w.heap.size + 1, 0, none⟩ (.int .i64 180))
 have kB : Kept [w.heap.size + 1] (w2.setCell ⟨w.heap.size, 0, none⟩ (.slice none 0 0)) W3 := by rw [<-hW3]; exact (Kept.refl _ _).setCell (by simp) _
 have eA : W3.cell? ⟨w.heap.size, 0, none⟩ = some ((.slice none 0 0)) := kB.cellOf (World.cell?_setCell_same _ _ _ cA2) (by simp)
 have eB : W3.cell? ⟨w.heap.size + 1, 0, none⟩ = some (.int .i64 180) := by rw [<-hW3]; exact World.cell?_setCell_same _ _ _ cB2
 have hK : Kept [] w W3 := ((kb.tr (k2)).tr kA).tr kB
 rw [hW3]
 have hres := fun (tm : Array Value) h2 h3 => app_results (tmps := tm) eA eB h2 h3
 simp [Leaves, settle, hres]
 exact ⟨⟨none, 0, rfl, World.ownsRow_nil _ _ _ _⟩, hK⟩
theorem app_base (bo : Option Addr) (bn bc : Nat) (bs : List UInt8) (ao : Option Addr) (n cap : Nat) (xs : List UInt8) (w : World) (hb : InB8 w bo bn bc bs) (h : InB8 w ao n cap xs) (hl : bn <= 131072) (d : Dta) (hd : decD xs = some d) (hB : ¬ (bs.length = d.blen ∧ Sha.ident d.width bs = d.bid)) :
  Calls Tryz.prog 16 #[.slice bo bn bc, .slice ao n cap] w fun e w' => TellB w w' e 181 [] ∧ Kept [] w w' := by
 have hmf : ∀ (fn : Fn) (first cap : Array Value) (w : World), (Instr.makeFunc fn first cap).run Tryz.prog w = .ok (.func fn first cap) w := fun _ _ _ _ => rfl
 have hzo := Tryz.zeroOrd
 have HB := hide hb
 have H := hide h
 clear hb h
 go_enter_defers Tryz.func16, Tryz.ntmps16
 go_upto_region 2 with (fail)
 obtain ⟨W0, hW0⟩ := nm ((w.alloc (.cells #[.slice none 0 0] 27)).alloc (.cells #[.int .i64 0] 29))
 rw [hW0]
 have kb : Kept [] w W0 := by rw [<-hW0]; exact ((Kept.refl [] w).alloc _).alloc _
 have sz : W0.heap.size = w.heap.size + 2 := by rw [<-hW0]; simp
 have cA : W0.cell? ⟨w.heap.size, 0, none⟩ = some (.slice none 0 0) := by rw [<-hW0]; simp [go_sem]
 have fA : W0.frozen? ⟨w.heap.size, 0, none⟩ = false := by rw [<-hW0]; simp [go_sem]
 have cB : W0.cell? ⟨w.heap.size + 1, 0, none⟩ = some (.int .i64 0) := by rw [<-hW0]; simp [go_sem]
 have fB : W0.frozen? ⟨w.heap.size + 1, 0, none⟩ = false := by rw [<-hW0]; simp [go_sem]
 clear hW0
 have hs13 : ¬ 131072 < bn := by omega
 have hro : Calls Tryz.prog 49 #[.slice ao n cap] W0 fun e w' => (∃ gL vals bk tk, e = .returned (.agg (ordC d.width d.size bk tk (.slice (some ⟨gL, 0, none⟩) d.steps.length d.steps.length)).toArray) ∧ bk.sum = (d.blen : Nat) ∧ bk.id = d.bid ∧ tk.sum = (d.tlen : Nat) ∧ tk.id = d.tid ∧ Lst w' gL d.steps.length vals ∧ vals.length = d.steps.length ∧ ∀ (i : Nat) s u, d.steps[i]? = some s -> vals[i]? = some u -> StpV w' s u) ∧ Kept [] W0 w' := (readOrd_good ao n cap xs W0 (H.out.kept kb) d hd).mono fun e w' he => ⟨by have h1 := he.1; unfold OrdPost at h1; rw [hd] at h1; exact h1, he.2⟩
 obtain ⟨hok, _, _⟩ := decD_some hd
 have HOK := hide hok
 clear hd hok
 obtain ⟨L, hL⟩ := nm (d.steps.length)
 obtain ⟨W, hW⟩ := nm (d.width)
 obtain ⟨Z, hZ⟩ := nm (d.size)
 rw [hL, hW, hZ] at hro
 have HLL := hide hL
 have HWW := hide hW
 have HZZ := hide hZ
 clear hL hW hZ
 go_upto_region 5 with (first
  | (go_at_call 49; refine hro.mono ?_; rintro r w2 ⟨⟨gL, vals, bk, tk, rfl, hb1, hb2, ht1, ht2, hls, hvl, hall⟩, hk2⟩; have HP := hide (ai hb1 (ai hb2 (ai ht1 (ai ht2 (ai hls (ai hvl hall)))))); have HK2 := hide hk2; have hoz := heap_new w2 (.cells (ordC 0 0 wk0 wk0 (.slice none 0 0)).toArray 74); have hia := Tryz.infoOrdA W Z bk tk (.slice (some ⟨gL, 0, none⟩) L L); have hzs : ((ordC 0 0 wk0 wk0 (.slice none 0 0)).toArray).size = (ordC W Z bk tk (.slice (some ⟨gL, 0, none⟩) L L)).toArray.size := (by rw [ordC_size, ordC_size]); have hal := ordC_one W Z bk tk (.slice (some ⟨gL, 0, none⟩) L L) rfl; clear hro hb1 hb2 ht1 ht2 hls hvl hall hk2)
  | refine wpList_store_rowTo rfl 74 (.tmp 6) (.tmp 13) rfl rfl w2.heap.size (ordC W Z bk tk (.slice (some ⟨gL, 0, none⟩) L L)).toArray rfl rfl 74 ((ordC 0 0 wk0 wk0 (.slice none 0 0)).toArray) hoz hia hzs hal ?_)
 have k3 : Kept [] w2 ((w2.alloc (.cells (ordC 0 0 wk0 wk0 (.slice none 0 0)).toArray 74)).setRow w2.heap.size (ordC W Z bk tk (.slice (some ⟨gL, 0, none⟩) L L)).toArray) := ((Kept.refl [] w2).alloc _).trans (kept_row _ w2.heap.size _) (fun i hi hl => by simp only [List.mem_singleton] at hi; omega)
 have hA : OrdAt ((w2.alloc (.cells (ordC 0 0 wk0 wk0 (.slice none 0 0)).toArray 74)).setRow w2.heap.size (ordC W Z bk tk (.slice (some ⟨gL, 0, none⟩) L L)).toArray) w2.heap.size W Z bk tk (.slice (some ⟨gL, 0, none⟩) L L) := ⟨setRow_heap _ _ _ _ _ _ hoz⟩
 obtain ⟨O, hO⟩ := nm (w2.heap.size)
 rw [hO] at k3 hA ⊢
 have K3 := hide (HK2.out.tr k3)
 have HS := hide k3
 clear hO hoz hia hzs hal k3
 generalize (w2.alloc (.cells (ordC 0 0 wk0 wk0 (.slice none 0 0)).toArray 74)).setRow O (ordC W Z bk tk (.slice (some ⟨gL, 0, none⟩) L L)).toArray = w3 at hA K3 HS ⊢
 obtain ⟨hb1, hb2, ht1, ht2, hls, hvl, hall⟩ := HP.out
 have HQ : Hid (bk.sum = (d.blen : Nat) ∧ bk.id = d.bid ∧ tk.sum = (d.tlen : Nat) ∧ tk.id = d.tid) := ⟨hb1, hb2, ht1, ht2⟩
 have HEL : Hid (∀ i, i < L -> ∃ g off u s, some (⟨gL, 0, none⟩ : Addr) = some ⟨g, off, none⟩ ∧ w3.cell? ⟨g, off + i, none⟩ = some u ∧ d.steps[i]? = some s ∧ StpV w3 s u) := by
  intro i hi
  have h1 : i < d.steps.length := by rw [HLL.out]; exact hi
  have h2 : i < vals.length := by rw [hvl]; exact hi
  refine ⟨gL, 0, vals[i], d.steps[i], rfl, ?_, List.getElem?_eq_getElem h1, ?_⟩
  ·rw [Nat.zero_add]; exact (hls.kept HS.out (by simp)).cell (List.getElem?_eq_getElem h2)
  ·exact (hall i _ _ (List.getElem?_eq_getElem h1) (List.getElem?_eq_getElem h2)).kept HS.out
 clear hb1 hb2 ht1 ht2 hls hvl hall HP HS HK2
 have cW := hA.c (j := 0) (u := .int .i64 W) rfl
 have HA := hide hA
 clear hA
 obtain ⟨k, hk1, hk2⟩ : ∃ k : Wk, k.sum = (bn : Int) ∧ k.id = Sha.ident (W : Int) bs := ⟨⟨(bn : Nat), Sha.ident (W : Int) bs, Sha.ident_len _ _, wf64 (by omega) (by omega)⟩, rfl, rfl⟩
 have hwk : wkEq k bk = false := by
  rw [Bool.eq_false_iff, Ne, wkEq, Bool.and_eq_true, decide_eq_true_eq, decide_eq_true_eq, hk1, hk2, HQ.out.1, HQ.out.2.1, <-HB.out.len, <-HWW.out]; simpa [Int.ofNat_inj] using hB
 have heq := fun W => Tryz.eqlSeal k bk W
 have hso := fun X (hX : Kept [] w3 X) => sealOf_ok (W : Int) bo bn bc bs X k hk1 hk2 HB.out.len HB.out.le (HB.out.sl.kept ((kb.tr K3.out).tr hX) (by simp)) (by omega)
 clear hk1 hk2
 refine th w3 fun h0 => ?_
 generalize World.drew w3 = v0 at h0  ⊢
 refine t5 0 (.pointer (some ⟨O, 0, none⟩)) rfl (fun _ _ _ h => appQ _ 14 _ (by decide) (by decide) _ _ _ h) (Or.inl ⟨by rfl, fun w hSw => by go_simp⟩) h0 ?_
 simp only [zz]
 refine t5 1 (.int .i64 W) rfl (fun _ _ _ h => appQ _ 15 _ (by decide) (by decide) _ _ _ h) (Or.inl ⟨by rfl, fun w hSw => by have c0 := qc hSw cW; go_simp⟩) h0 ?_
 simp only [zz]
 refine t5 2 (.slice bo bn bc) rfl (fun _ _ _ h => appQ _ 16 _ (by decide) (by decide) _ _ _ h) (Or.inl ⟨by rfl, fun w hSw => by go_simp⟩) h0 ?_
 simp only [zz]
 refine t5 4 (.pointer (some ⟨O, 2, none⟩)) rfl (fun _ _ _ h => appQ _ 18 _ (by decide) (by decide) _ _ _ h) (Or.inl ⟨by rfl, fun w hSw => by go_simp⟩) h0 ?_
 simp only [zz]
 refine t5 5 (.agg bk.cells.toArray) rfl (fun _ _ _ h => appQ _ 19 _ (by decide) (by decide) _ _ _ h) (yieldsIf_load_mid (by rfl) _ _ rfl O 2 rfl bk.cells _ (fun W h => (HA.out.kept h (by simp)).b) Tryz.underlying71 rfl (Tryz.infoSeal bk)) h0 ?_
 simp only [zz]
 refine rd 3 fun K hK => ?_
 go_simp
 refine (hso _ h0).mono ?_
 rintro e v1 ⟨rfl, hq⟩
 refine hK.out _ _ (h0.tr hq) (fun h1 => ?_)
 clear hK K
 try simp only [zz]
 clear hq h0 hso
 refine t5 6 (.bool true) rfl (fun _ _ _ h => appQ _ 20 _ (by decide) (by decide) _ _ _ h) (Or.inl ⟨by rfl, fun w hSw => by go_simp⟩) h1 ?_
 simp only [zz]
 refine qd ?_
 have K4 := hide (K3.out.tr h1)
 have cA2 := (K4.out).cellOf cA (by simp)
 have fA2 := ((K4.out).frozen (show w.heap.size < W0.heap.size by omega) (by simp)).trans fA
 have kA : Kept [w.heap.size] v1 (v1.setCell ⟨w.heap.size, 0, none⟩ (.slice none 0 0)) := (Kept.refl _ _).setCell (by simp) _
 have cB2 := kA.cellOf ((K4.out).cellOf cB (by simp)) (by simp)
 have fB2 := (kA.frozen (Nat.lt_of_lt_of_le (show w.heap.size + 1 < W0.heap.size by omega) (K4.out).size) (by simp)).trans (((K4.out).frozen (show w.heap.size + 1 < W0.heap.size by omega) (by simp)).trans fB)
 go_wp2
 refine leaves_cons (f := 48) (args := #[.pointer (some ⟨w.heap.size, 0, none⟩), .pointer (some ⟨w.heap.size + 1, 0, none⟩)]) (by simp) (by simp [go_sem]) ?_
 refine (acatch_idle w.heap.size (w.heap.size + 1) _).mono ?_
 rintro e u' w'' ⟨rfl, rfl, rfl⟩
 obtain ⟨W3, hW3⟩ := nm ((v1.setCell ⟨w.heap.size, 0, none⟩ (.slice none 0 0)).setCell ⟨w.heap.size + 1, 0, none⟩ (.int .i64 181))
 have kB : Kept [w.heap.size + 1] (v1.setCell ⟨w.heap.size, 0, none⟩ (.slice none 0 0)) W3 := by rw [<-hW3]; exact (Kept.refl _ _).setCell (by simp) _
 have eA : W3.cell? ⟨w.heap.size, 0, none⟩ = some ((.slice none 0 0)) := kB.cellOf (World.cell?_setCell_same _ _ _ cA2) (by simp)
 have eB : W3.cell? ⟨w.heap.size + 1, 0, none⟩ = some (.int .i64 181) := by rw [<-hW3]; exact World.cell?_setCell_same _ _ _ cB2
 have hK : Kept [] w W3 := ((kb.tr (K4.out)).tr kA).tr kB
 rw [hW3]
 have hres := fun (tm : Array Value) h2 h3 => app_results (tmps := tm) eA eB h2 h3
 simp [Leaves, settle, hres]
 exact ⟨⟨none, 0, rfl, World.ownsRow_nil _ _ _ _⟩, hK⟩
theorem app_targ (bo : Option Addr) (bn bc : Nat) (bs : List UInt8) (ao : Option Addr) (n cap : Nat) (xs : List UInt8) (w : World) (hb : InB8 w bo bn bc bs) (h : InB8 w ao n cap xs) (hl : bn <= 131072) (d : Dta) (hd : decD xs = some d) (hB : bs.length = d.blen ∧ Sha.ident d.width bs = d.bid) (hT : ¬ Sha.ident d.width (doIs d.size bs d.steps) = d.tid) :
  Calls Tryz.prog 16 #[.slice bo bn bc, .slice ao n cap] w fun e w' => TellB w w' e 182 [] ∧ Kept [] w w' := by
 have hmf : ∀ (fn : Fn) (first cap : Array Value) (w : World), (Instr.makeFunc fn first cap).run Tryz.prog w = .ok (.func fn first cap) w := fun _ _ _ _ => rfl
 have hzo := Tryz.zeroOrd
 have HB := hide hb
 have H := hide h
 clear hb h
 go_enter_defers Tryz.func16, Tryz.ntmps16
 go_upto_region 2 with (fail)
 obtain ⟨W0, hW0⟩ := nm ((w.alloc (.cells #[.slice none 0 0] 27)).alloc (.cells #[.int .i64 0] 29))
 rw [hW0]
 have kb : Kept [] w W0 := by rw [<-hW0]; exact ((Kept.refl [] w).alloc _).alloc _
 have sz : W0.heap.size = w.heap.size + 2 := by rw [<-hW0]; simp
 have cA : W0.cell? ⟨w.heap.size, 0, none⟩ = some (.slice none 0 0) := by rw [<-hW0]; simp [go_sem]
 have fA : W0.frozen? ⟨w.heap.size, 0, none⟩ = false := by rw [<-hW0]; simp [go_sem]
 have cB : W0.cell? ⟨w.heap.size + 1, 0, none⟩ = some (.int .i64 0) := by rw [<-hW0]; simp [go_sem]
 have fB : W0.frozen? ⟨w.heap.size + 1, 0, none⟩ = false := by rw [<-hW0]; simp [go_sem]
 clear hW0
 have HBB := hide hB
 have HTT := hide hT
 clear hB hT
 have hs13 : ¬ 131072 < bn := by omega
 have hro : Calls Tryz.prog 49 #[.slice ao n cap] W0 fun e w' => (∃ gL vals bk tk, e = .returned (.agg (ordC d.width d.size bk tk (.slice (some ⟨gL, 0, none⟩) d.steps.length d.steps.length)).toArray) ∧ bk.sum = (d.blen : Nat) ∧ bk.id = d.bid ∧ tk.sum = (d.tlen : Nat) ∧ tk.id = d.tid ∧ Lst w' gL d.steps.length vals ∧ vals.length = d.steps.length ∧ ∀ (i : Nat) s u, d.steps[i]? = some s -> vals[i]? = some u -> StpV w' s u) ∧ Kept [] W0 w' := (readOrd_good ao n cap xs W0 (H.out.kept kb) d hd).mono fun e w' he => ⟨by have h1 := he.1; unfold OrdPost at h1; rw [hd] at h1; exact h1, he.2⟩
 obtain ⟨hok, _, _⟩ := decD_some hd
 have HOK := hide hok
 clear hd hok
 obtain ⟨L, hL⟩ := nm (d.steps.length)
 obtain ⟨W, hW⟩ := nm (d.width)
 obtain ⟨Z, hZ⟩ := nm (d.size)
 rw [hL, hW, hZ] at hro
 have HLL := hide hL
 have HWW := hide hW
 have HZZ := hide hZ
 clear hL hW hZ
 go_upto_region 5 with (first
  | (go_at_call 49; refine hro.mono ?_; rintro r w2 ⟨⟨gL, vals, bk, tk, rfl, hb1, hb2, ht1, ht2, hls, hvl, hall⟩, hk2⟩; have HP := hide (ai hb1 (ai hb2 (ai ht1 (ai ht2 (ai hls (ai hvl hall)))))); have HK2 := hide hk2; have hoz := heap_new w2 (.cells (ordC 0 0 wk0 wk0 (.slice none 0 0)).toArray 74); have hia := Tryz.infoOrdA W Z bk tk (.slice (some ⟨gL, 0, none⟩) L L); have hzs : ((ordC 0 0 wk0 wk0 (.slice none 0 0)).toArray).size = (ordC W Z bk tk (.slice (some ⟨gL, 0, none⟩) L L)).toArray.size := (by rw [ordC_size, ordC_size]); have hal := ordC_one W Z bk tk (.slice (some ⟨gL, 0, none⟩) L L) rfl; clear hro hb1 hb2 ht1 ht2 hls hvl hall hk2)
  | refine wpList_store_rowTo rfl 74 (.tmp 6) (.tmp 13) rfl rfl w2.heap.size (ordC W Z bk tk (.slice (some ⟨gL, 0, none⟩) L L)).toArray rfl rfl 74 ((ordC 0 0 wk0 wk0 (.slice none 0 0)).toArray) hoz hia hzs hal ?_)
 have k3 : Kept [] w2 ((w2.alloc (.cells (ordC 0 0 wk0 wk0 (.slice none 0 0)).toArray 74)).setRow w2.heap.size (ordC W Z bk tk (.slice (some ⟨gL, 0, none⟩) L L)).toArray) := ((Kept.refl [] w2).alloc _).trans (kept_row _ w2.heap.size _) (fun i hi hl => by simp only [List.mem_singleton] at hi; omega)
 have hA : OrdAt ((w2.alloc (.cells (ordC 0 0 wk0 wk0 (.slice none 0 0)).toArray 74)).setRow w2.heap.size (ordC W Z bk tk (.slice (some ⟨gL, 0, none⟩) L L)).toArray) w2.heap.size W Z bk tk (.slice (some ⟨gL, 0, none⟩) L L) := ⟨setRow_heap _ _ _ _ _ _ hoz⟩
 obtain ⟨O, hO⟩ := nm (w2.heap.size)
 rw [hO] at k3 hA ⊢
 have K3 := hide (HK2.out.tr k3)
 have HS := hide k3
 clear hO hoz hia hzs hal k3
 generalize (w2.alloc (.cells (ordC 0 0 wk0 wk0 (.slice none 0 0)).toArray 74)).setRow O (ordC W Z bk tk (.slice (some ⟨gL, 0, none⟩) L L)).toArray = w3 at hA K3 HS ⊢
 obtain ⟨hb1, hb2, ht1, ht2, hls, hvl, hall⟩ := HP.out
 have HQ : Hid (bk.sum = (d.blen : Nat) ∧ bk.id = d.bid ∧ tk.sum = (d.tlen : Nat) ∧ tk.id = d.tid) := ⟨hb1, hb2, ht1, ht2⟩
 have HEL : Hid (∀ i, i < L -> ∃ g off u s, some (⟨gL, 0, none⟩ : Addr) = some ⟨g, off, none⟩ ∧ w3.cell? ⟨g, off + i, none⟩ = some u ∧ d.steps[i]? = some s ∧ StpV w3 s u) := by
  intro i hi
  have h1 : i < d.steps.length := by rw [HLL.out]; exact hi
  have h2 : i < vals.length := by rw [hvl]; exact hi
  refine ⟨gL, 0, vals[i], d.steps[i], rfl, ?_, List.getElem?_eq_getElem h1, ?_⟩
  ·rw [Nat.zero_add]; exact (hls.kept HS.out (by simp)).cell (List.getElem?_eq_getElem h2)
  ·exact (hall i _ _ (List.getElem?_eq_getElem h1) (List.getElem?_eq_getElem h2)).kept HS.out
 clear hb1 hb2 ht1 ht2 hls hvl hall HP HS HK2
 have cW := hA.c (j := 0) (u := .int .i64 W) rfl
 have HA := hide hA
 clear hA
 obtain ⟨k, hk1, hk2⟩ : ∃ k : Wk, k.sum = (bn : Int) ∧ k.id = Sha.ident (W : Int) bs := ⟨⟨(bn : Nat), Sha.ident (W : Int) bs, Sha.ident_len _ _, wf64 (by omega) (by omega)⟩, rfl, rfl⟩
 have hwk : wkEq k bk = true := by
  rw [wkEq, Bool.and_eq_true, decide_eq_true_eq, decide_eq_true_eq, hk1, hk2, HQ.out.1, HQ.out.2.1, <-HB.out.len, <-HWW.out]; simpa [Int.ofNat_inj] using HBB.out
 have heq := fun W => Tryz.eqlSeal k bk W
 have hso := fun X (hX : Kept [] w3 X) => sealOf_ok (W : Int) bo bn bc bs X k hk1 hk2 HB.out.len HB.out.le (HB.out.sl.kept ((kb.tr K3.out).tr hX) (by simp)) (by omega)
 clear hk1 hk2
 refine th w3 fun h0 => ?_
 generalize World.drew w3 = v0 at h0  ⊢
 refine t5 0 (.pointer (some ⟨O, 0, none⟩)) rfl (fun _ _ _ h => appQ _ 14 _ (by decide) (by decide) _ _ _ h) (Or.inl ⟨by rfl, fun w hSw => by go_simp⟩) h0 ?_
 simp only [zz]
 refine t5 1 (.int .i64 W) rfl (fun _ _ _ h => appQ _ 15 _ (by decide) (by decide) _ _ _ h) (Or.inl ⟨by rfl, fun w hSw => by have c0 := qc hSw cW; go_simp⟩) h0 ?_
 simp only [zz]
 refine t5 2 (.slice bo bn bc) rfl (fun _ _ _ h => appQ _ 16 _ (by decide) (by decide) _ _ _ h) (Or.inl ⟨by rfl, fun w hSw => by go_simp⟩) h0 ?_
 simp only [zz]
 refine t5 4 (.pointer (some ⟨O, 2, none⟩)) rfl (fun _ _ _ h => appQ _ 18 _ (by decide) (by decide) _ _ _ h) (Or.inl ⟨by rfl, fun w hSw => by go_simp⟩) h0 ?_
 simp only [zz]
 refine t5 5 (.agg bk.cells.toArray) rfl (fun _ _ _ h => appQ _ 19 _ (by decide) (by decide) _ _ _ h) (yieldsIf_load_mid (by rfl) _ _ rfl O 2 rfl bk.cells _ (fun W h => (HA.out.kept h (by simp)).b) Tryz.underlying71 rfl (Tryz.infoSeal bk)) h0 ?_
 simp only [zz]
 refine rd 3 fun K hK => ?_
 go_simp
 refine (hso _ h0).mono ?_
 rintro e v1 ⟨rfl, hq⟩
 refine hK.out _ _ (h0.tr hq) (fun h1 => ?_)
 clear hK K
 try simp only [zz]
 clear hq h0 hso
 refine t5 6 (.bool false) rfl (fun _ _ _ h => appQ _ 20 _ (by decide) (by decide) _ _ _ h) (Or.inl ⟨by rfl, fun w hSw => by go_simp⟩) h1 ?_
 simp only [zz]
 refine qd ?_
 have h1X := h1
 have HK4 := hide (K3.out.tr h1)
 have hAr := (HA.out.kept h1 (by simp)).range
 have hil := Tryz.infoOrd W Z bk tk (.slice (some ⟨gL, 0, none⟩) L L)
 have hbl : bs.length = d.blen := HBB.out.1
 have hbn : bn = d.blen := by rw [<-HB.out.len]; exact hbl
 obtain ⟨M, hM⟩ := nm (total Z d.steps)
 have hMt : M = d.tlen := by rw [<-hM, <-HZZ.out]; exact HOK.out.sum
 have hM13 : M <= 131072 := by rw [hMt]; exact HOK.out.t2
 have hdo := do_ok (W : Int) Z d.tlen bk tk (some ⟨gL, 0, none⟩) L L d.steps bo bn bc bs v1 HLL.out (by have := HOK.out.few; rw [HLL.out] at this; omega) HQ.out.2.2.1 (by have := HOK.out.t2; omega) (by have := HOK.out.z1; rw [HZZ.out] at this; omega)
  (fun i hi => by
   obtain ⟨g, off, u, s, e1, e2, e3, e4⟩ := HEL.out i hi
   exact ⟨g, off, u, s, e1, h1.cellOf e2 (by simp), e3, e4.kept h1⟩)
  (fun s hs => by have := HOK.out.ins s hs; rw [HZZ.out] at this; rw [hbn]; exact this) (by rw [hM]; omega) HB.out.len HB.out.le (by omega) (HB.out.sl.kept ((kb.tr HK4.out)) (by simp))
 rw [hM] at hdo
 obtain ⟨ms, hms⟩ := nm (doIs Z bs d.steps)
 rw [hms] at hdo
 have HMS := hide hms
 have HMT := hide hMt
 clear hms hMt hM hbn hbl h1 HEL
 go_upto_region 8 with (first
  | refine wpList_load_mid rfl 74 (.tmp 6) rfl O 0 rfl (ordC W Z bk tk (.slice (some ⟨gL, 0, none⟩) L L)) _ hAr Tryz.underlying74 rfl hil ?_
  | (go_at_call 50; refine hdo.mono ?_; rintro r w5 ⟨⟨mo, mc, rfl, ho⟩, hk5⟩; have H5 := hide (ai ho hk5); clear hdo ho hk5))
 clear hAr hil
 obtain ⟨ho, hk5⟩ := H5.out
 clear H5
 have hml : ms.length = M := by have := ho.1; rw [bys_length] at this; omega
 have hmc : M <= mc := by obtain ⟨_, _, e, he⟩ := own_shape ho; cases e; exact he
 have hsm := own_sl9 ho
 have HK5 := hide (HK4.out.tr hk5)
 have K35 := hide ((h1X).tr hk5)
 have hA5 := HA.out.kept K35.out (by simp)
 have HO5 := hide ho
 have HG5 : Hid (∀ g, (Value.slice mo M mc).ownBlock = some g -> w.heap.size + 2 <= g) := fun g hg => by have h1 := (own_blk ho hg).1; have h2 := HK4.out.size; omega
 clear ho hk5 HA cW K35
 have cW := hA5.c (j := 0) (u := .int .i64 W) rfl
 have HA5 := hide hA5
 clear hA5
 obtain ⟨k2, hk1, hk2⟩ : ∃ k : Wk, k.sum = (M : Int) ∧ k.id = Sha.ident (W : Int) ms := ⟨⟨(M : Nat), Sha.ident (W : Int) ms, Sha.ident_len _ _, wf64 (by omega) (by omega)⟩, rfl, rfl⟩
 have hwk2 : wkEq k2 tk = false := by
  have := HTT.out
  rw [HWW.out, HZZ.out, HMS.out] at this
  rw [Bool.eq_false_iff, Ne, wkEq, Bool.and_eq_true, decide_eq_true_eq, decide_eq_true_eq, hk1, hk2, HQ.out.2.2.2]; exact fun h => this h.2
 have heq2 := fun W => Tryz.eqlSeal k2 tk W
 have hso := fun X (hX : Kept [] w5 X) => sealOf_ok (W : Int) mo M mc ms X k2 hk1 hk2 hml hmc (hsm.kept hX (by simp)) (by omega)
 have HML := hide hml
 clear hk1 hk2 hml hmc hsm heq hwk
 refine th w5 fun g0 => ?_
 generalize World.drew w5 = u0 at g0  ⊢
 refine t5 0 (.pointer (some ⟨O, 0, none⟩)) rfl (fun _ _ _ h => appQ _ 24 _ (by decide) (by decide) _ _ _ h) (Or.inl ⟨by rfl, fun w hSw => by go_simp⟩) g0 ?_
 simp only [zz]
 refine t5 1 (.int .i64 W) rfl (fun _ _ _ h => appQ _ 25 _ (by decide) (by decide) _ _ _ h) (Or.inl ⟨by rfl, fun w hSw => by have c0 := qc hSw cW; go_simp⟩) g0 ?_
 simp only [zz]
 refine t5 2 (.slice mo M mc) rfl (fun _ _ _ h => appQ _ 26 _ (by decide) (by decide) _ _ _ h) (Or.inl ⟨by rfl, fun w hSw => by go_simp⟩) g0 ?_
 simp only [zz]
 refine t5 4 (.pointer (some ⟨O, 35, none⟩)) rfl (fun _ _ _ h => appQ _ 28 _ (by decide) (by decide) _ _ _ h) (Or.inl ⟨by rfl, fun w hSw => by go_simp⟩) g0 ?_
 simp only [zz]
 refine t5 5 (.agg tk.cells.toArray) rfl (fun _ _ _ h => appQ _ 29 _ (by decide) (by decide) _ _ _ h) (yieldsIf_load_mid (by rfl) _ _ rfl O 35 rfl tk.cells _ (fun W h => (HA5.out.kept h (by simp)).t) Tryz.underlying71 rfl (Tryz.infoSeal tk)) g0 ?_
 simp only [zz]
 refine rd 3 fun K hK => ?_
 go_simp
 refine (hso _ g0).mono ?_
 rintro e u1 ⟨rfl, hq⟩
 refine hK.out _ _ (g0.tr hq) (fun g1 => ?_)
 clear hK K
 try simp only [zz]
 clear hq g0 hso
 refine t5 6 (.bool true) rfl (fun _ _ _ h => appQ _ 30 _ (by decide) (by decide) _ _ _ h) (Or.inl ⟨by rfl, fun w hSw => by go_simp⟩) g1 ?_
 simp only [zz]
 refine qd ?_
 have K6 := hide (HK5.out.tr g1)
 have cA2 := (K6.out).cellOf cA (by simp)
 have fA2 := ((K6.out).frozen (show w.heap.size < W0.heap.size by omega) (by simp)).trans fA
 have kA : Kept [w.heap.size] u1 (u1.setCell ⟨w.heap.size, 0, none⟩ (.slice none 0 0)) := (Kept.refl _ _).setCell (by simp) _
 have cB2 := kA.cellOf ((K6.out).cellOf cB (by simp)) (by simp)
 have fB2 := (kA.frozen (Nat.lt_of_lt_of_le (show w.heap.size + 1 < W0.heap.size by omega) (K6.out).size) (by simp)).trans (((K6.out).frozen (show w.heap.size + 1 < W0.heap.size by omega) (by simp)).trans fB)
 go_wp2
 refine leaves_cons (f := 48) (args := #[.pointer (some ⟨w.heap.size, 0, none⟩), .pointer (some ⟨w.heap.size + 1, 0, none⟩)]) (by simp) (by simp [go_sem]) ?_
 refine (acatch_idle w.heap.size (w.heap.size + 1) _).mono ?_
 rintro e u' w'' ⟨rfl, rfl, rfl⟩
 obtain ⟨W3, hW3⟩ := nm ((u1.setCell ⟨w.heap.size, 0, none⟩ (.slice none 0 0)).setCell ⟨w.heap.size + 1, 0, none⟩ (.int .i64 182))
 have kB : Kept [w.heap.size + 1] (u1.setCell ⟨w.heap.size, 0, none⟩ (.slice none 0 0)) W3 := by rw [<-hW3]; exact (Kept.refl _ _).setCell (by simp) _
 have eA : W3.cell? ⟨w.heap.size, 0, none⟩ = some ((.slice none 0 0)) := kB.cellOf (World.cell?_setCell_same _ _ _ cA2) (by simp)
 have eB : W3.cell? ⟨w.heap.size + 1, 0, none⟩ = some (.int .i64 182) := by rw [<-hW3]; exact World.cell?_setCell_same _ _ _ cB2
 have hK : Kept [] w W3 := ((kb.tr (K6.out)).tr kA).tr kB
 rw [hW3]
 have hres := fun (tm : Array Value) h2 h3 => app_results (tmps := tm) eA eB h2 h3
 simp [Leaves, settle, hres]
 exact ⟨⟨none, 0, rfl, World.ownsRow_nil _ _ _ _⟩, hK⟩
theorem app_yes (bo : Option Addr) (bn bc : Nat) (bs : List UInt8) (ao : Option Addr) (n cap : Nat) (xs : List UInt8) (w : World) (hb : InB8 w bo bn bc bs) (h : InB8 w ao n cap xs) (hl : bn <= 131072) (d : Dta) (hd : decD xs = some d) (hB : bs.length = d.blen ∧ Sha.ident d.width bs = d.bid) (hT : Sha.ident d.width (doIs d.size bs d.steps) = d.tid) :
  Calls Tryz.prog 16 #[.slice bo bn bc, .slice ao n cap] w fun e w' => TellB w w' e 0 (doIs d.size bs d.steps) ∧ Kept [] w w' := by
 have hmf : ∀ (fn : Fn) (first cap : Array Value) (w : World), (Instr.makeFunc fn first cap).run Tryz.prog w = .ok (.func fn first cap) w := fun _ _ _ _ => rfl
 have hzo := Tryz.zeroOrd
 have HB := hide hb
 have H := hide h
 clear hb h
 go_enter_defers Tryz.func16, Tryz.ntmps16
 go_upto_region 2 with (fail)
 obtain ⟨W0, hW0⟩ := nm ((w.alloc (.cells #[.slice none 0 0] 27)).alloc (.cells #[.int .i64 0] 29))
 rw [hW0]
 have kb : Kept [] w W0 := by rw [<-hW0]; exact ((Kept.refl [] w).alloc _).alloc _
 have sz : W0.heap.size = w.heap.size + 2 := by rw [<-hW0]; simp
 have cA : W0.cell? ⟨w.heap.size, 0, none⟩ = some (.slice none 0 0) := by rw [<-hW0]; simp [go_sem]
 have fA : W0.frozen? ⟨w.heap.size, 0, none⟩ = false := by rw [<-hW0]; simp [go_sem]
 have cB : W0.cell? ⟨w.heap.size + 1, 0, none⟩ = some (.int .i64 0) := by rw [<-hW0]; simp [go_sem]
 have fB : W0.frozen? ⟨w.heap.size + 1, 0, none⟩ = false := by rw [<-hW0]; simp [go_sem]
 clear hW0
 have HBB := hide hB
 have HTT := hide hT
 clear hB hT
 have hs13 : ¬ 131072 < bn := by omega
 have hro : Calls Tryz.prog 49 #[.slice ao n cap] W0 fun e w' => (∃ gL vals bk tk, e = .returned (.agg (ordC d.width d.size bk tk (.slice (some ⟨gL, 0, none⟩) d.steps.length d.steps.length)).toArray) ∧ bk.sum = (d.blen : Nat) ∧ bk.id = d.bid ∧ tk.sum = (d.tlen : Nat) ∧ tk.id = d.tid ∧ Lst w' gL d.steps.length vals ∧ vals.length = d.steps.length ∧ ∀ (i : Nat) s u, d.steps[i]? = some s -> vals[i]? = some u -> StpV w' s u) ∧ Kept [] W0 w' := (readOrd_good ao n cap xs W0 (H.out.kept kb) d hd).mono fun e w' he => ⟨by have h1 := he.1; unfold OrdPost at h1; rw [hd] at h1; exact h1, he.2⟩
 obtain ⟨hok, _, _⟩ := decD_some hd
 have HOK := hide hok
 clear hd hok
 obtain ⟨L, hL⟩ := nm (d.steps.length)
 obtain ⟨W, hW⟩ := nm (d.width)
 obtain ⟨Z, hZ⟩ := nm (d.size)
 rw [hL, hW, hZ] at hro
 have HLL := hide hL
 have HWW := hide hW
 have HZZ := hide hZ
 clear hL hW hZ
 go_upto_region 5 with (first
  | (go_at_call 49; refine hro.mono ?_; rintro r w2 ⟨⟨gL, vals, bk, tk, rfl, hb1, hb2, ht1, ht2, hls, hvl, hall⟩, hk2⟩; have HP := hide (ai hb1 (ai hb2 (ai ht1 (ai ht2 (ai hls (ai hvl hall)))))); have HK2 := hide hk2; have hoz := heap_new w2 (.cells (ordC 0 0 wk0 wk0 (.slice none 0 0)).toArray 74); have hia := Tryz.infoOrdA W Z bk tk (.slice (some ⟨gL, 0, none⟩) L L); have hzs : ((ordC 0 0 wk0 wk0 (.slice none 0 0)).toArray).size = (ordC W Z bk tk (.slice (some ⟨gL, 0, none⟩) L L)).toArray.size := (by rw [ordC_size, ordC_size]); have hal := ordC_one W Z bk tk (.slice (some ⟨gL, 0, none⟩) L L) rfl; clear hro hb1 hb2 ht1 ht2 hls hvl hall hk2)
  | refine wpList_store_rowTo rfl 74 (.tmp 6) (.tmp 13) rfl rfl w2.heap.size (ordC W Z bk tk (.slice (some ⟨gL, 0, none⟩) L L)).toArray rfl rfl 74 ((ordC 0 0 wk0 wk0 (.slice none 0 0)).toArray) hoz hia hzs hal ?_)
 have k3 : Kept [] w2 ((w2.alloc (.cells (ordC 0 0 wk0 wk0 (.slice none 0 0)).toArray 74)).setRow w2.heap.size (ordC W Z bk tk (.slice (some ⟨gL, 0, none⟩) L L)).toArray) := ((Kept.refl [] w2).alloc _).trans (kept_row _ w2.heap.size _) (fun i hi hl => by simp only [List.mem_singleton] at hi; omega)
 have hA : OrdAt ((w2.alloc (.cells (ordC 0 0 wk0 wk0 (.slice none 0 0)).toArray 74)).setRow w2.heap.size (ordC W Z bk tk (.slice (some ⟨gL, 0, none⟩) L L)).toArray) w2.heap.size W Z bk tk (.slice (some ⟨gL, 0, none⟩) L L) := ⟨setRow_heap _ _ _ _ _ _ hoz⟩
 obtain ⟨O, hO⟩ := nm (w2.heap.size)
 rw [hO] at k3 hA ⊢
 have K3 := hide (HK2.out.tr k3)
 have HS := hide k3
 clear hO hoz hia hzs hal k3
 generalize (w2.alloc (.cells (ordC 0 0 wk0 wk0 (.slice none 0 0)).toArray 74)).setRow O (ordC W Z bk tk (.slice (some ⟨gL, 0, none⟩) L L)).toArray = w3 at hA K3 HS ⊢
 obtain ⟨hb1, hb2, ht1, ht2, hls, hvl, hall⟩ := HP.out
 have HQ : Hid (bk.sum = (d.blen : Nat) ∧ bk.id = d.bid ∧ tk.sum = (d.tlen : Nat) ∧ tk.id = d.tid) := ⟨hb1, hb2, ht1, ht2⟩
 have HEL : Hid (∀ i, i < L -> ∃ g off u s, some (⟨gL, 0, none⟩ : Addr) = some ⟨g, off, none⟩ ∧ w3.cell? ⟨g, off + i, none⟩ = some u ∧ d.steps[i]? = some s ∧ StpV w3 s u) := by
  intro i hi
  have h1 : i < d.steps.length := by rw [HLL.out]; exact hi
  have h2 : i < vals.length := by rw [hvl]; exact hi
  refine ⟨gL, 0, vals[i], d.steps[i], rfl, ?_, List.getElem?_eq_getElem h1, ?_⟩
  ·rw [Nat.zero_add]; exact (hls.kept HS.out (by simp)).cell (List.getElem?_eq_getElem h2)
  ·exact (hall i _ _ (List.getElem?_eq_getElem h1) (List.getElem?_eq_getElem h2)).kept HS.out
 clear hb1 hb2 ht1 ht2 hls hvl hall HP HS HK2
 have cW := hA.c (j := 0) (u := .int .i64 W) rfl
 have HA := hide hA
 clear hA
 obtain ⟨k, hk1, hk2⟩ : ∃ k : Wk, k.sum = (bn : Int) ∧ k.id = Sha.ident (W : Int) bs := ⟨⟨(bn : Nat), Sha.ident (W : Int) bs, Sha.ident_len _ _, wf64 (by omega) (by omega)⟩, rfl, rfl⟩
 have hwk : wkEq k bk = true := by
  rw [wkEq, Bool.and_eq_true, decide_eq_true_eq, decide_eq_true_eq, hk1, hk2, HQ.out.1, HQ.out.2.1, <-HB.out.len, <-HWW.out]; simpa [Int.ofNat_inj] using HBB.out
 have heq := fun W => Tryz.eqlSeal k bk W
 have hso := fun X (hX : Kept [] w3 X) => sealOf_ok (W : Int) bo bn bc bs X k hk1 hk2 HB.out.len HB.out.le (HB.out.sl.kept ((kb.tr K3.out).tr hX) (by simp)) (by omega)
 clear hk1 hk2
 refine th w3 fun h0 => ?_
 generalize World.drew w3 = v0 at h0  ⊢
 refine t5 0 (.pointer (some ⟨O, 0, none⟩)) rfl (fun _ _ _ h => appQ _ 14 _ (by decide) (by decide) _ _ _ h) (Or.inl ⟨by rfl, fun w hSw => by go_simp⟩) h0 ?_
 simp only [zz]
 refine t5 1 (.int .i64 W) rfl (fun _ _ _ h => appQ _ 15 _ (by decide) (by decide) _ _ _ h) (Or.inl ⟨by rfl, fun w hSw => by have c0 := qc hSw cW; go_simp⟩) h0 ?_
 simp only [zz]
 refine t5 2 (.slice bo bn bc) rfl (fun _ _ _ h => appQ _ 16 _ (by decide) (by decide) _ _ _ h) (Or.inl ⟨by rfl, fun w hSw => by go_simp⟩) h0 ?_
 simp only [zz]
 refine t5 4 (.pointer (some ⟨O, 2, none⟩)) rfl (fun _ _ _ h => appQ _ 18 _ (by decide) (by decide) _ _ _ h) (Or.inl ⟨by rfl, fun w hSw => by go_simp⟩) h0 ?_
 simp only [zz]
 refine t5 5 (.agg bk.cells.toArray) rfl (fun _ _ _ h => appQ _ 19 _ (by decide) (by decide) _ _ _ h) (yieldsIf_load_mid (by rfl) _ _ rfl O 2 rfl bk.cells _ (fun W h => (HA.out.kept h (by simp)).b) Tryz.underlying71 rfl (Tryz.infoSeal bk)) h0 ?_
 simp only [zz]
 refine rd 3 fun K hK => ?_
 go_simp
 refine (hso _ h0).mono ?_
 rintro e v1 ⟨rfl, hq⟩
 refine hK.out _ _ (h0.tr hq) (fun h1 => ?_)
 clear hK K
 try simp only [zz]
 clear hq h0 hso
 refine t5 6 (.bool false) rfl (fun _ _ _ h => appQ _ 20 _ (by decide) (by decide) _ _ _ h) (Or.inl ⟨by rfl, fun w hSw => by go_simp⟩) h1 ?_
 simp only [zz]
 refine qd ?_
 have h1X := h1
 have HK4 := hide (K3.out.tr h1)
 have hAr := (HA.out.kept h1 (by simp)).range
 have hil := Tryz.infoOrd W Z bk tk (.slice (some ⟨gL, 0, none⟩) L L)
 have hbl : bs.length = d.blen := HBB.out.1
 have hbn : bn = d.blen := by rw [<-HB.out.len]; exact hbl
 obtain ⟨M, hM⟩ := nm (total Z d.steps)
 have hMt : M = d.tlen := by rw [<-hM, <-HZZ.out]; exact HOK.out.sum
 have hM13 : M <= 131072 := by rw [hMt]; exact HOK.out.t2
 have hdo := do_ok (W : Int) Z d.tlen bk tk (some ⟨gL, 0, none⟩) L L d.steps bo bn bc bs v1 HLL.out (by have := HOK.out.few; rw [HLL.out] at this; omega) HQ.out.2.2.1 (by have := HOK.out.t2; omega) (by have := HOK.out.z1; rw [HZZ.out] at this; omega)
  (fun i hi => by
   obtain ⟨g, off, u, s, e1, e2, e3, e4⟩ := HEL.out i hi
   exact ⟨g, off, u, s, e1, h1.cellOf e2 (by simp), e3, e4.kept h1⟩)
  (fun s hs => by have := HOK.out.ins s hs; rw [HZZ.out] at this; rw [hbn]; exact this) (by rw [hM]; omega) HB.out.len HB.out.le (by omega) (HB.out.sl.kept ((kb.tr HK4.out)) (by simp))
 rw [hM] at hdo
 obtain ⟨ms, hms⟩ := nm (doIs Z bs d.steps)
 rw [hms] at hdo
 have HMS := hide hms
 have HMT := hide hMt
 clear hms hMt hM hbn hbl h1 HEL
 go_upto_region 8 with (first
  | refine wpList_load_mid rfl 74 (.tmp 6) rfl O 0 rfl (ordC W Z bk tk (.slice (some ⟨gL, 0, none⟩) L L)) _ hAr Tryz.underlying74 rfl hil ?_
  | (go_at_call 50; refine hdo.mono ?_; rintro r w5 ⟨⟨mo, mc, rfl, ho⟩, hk5⟩; have H5 := hide (ai ho hk5); clear hdo ho hk5))
 clear hAr hil
 obtain ⟨ho, hk5⟩ := H5.out
 clear H5
 have hml : ms.length = M := by have := ho.1; rw [bys_length] at this; omega
 have hmc : M <= mc := by obtain ⟨_, _, e, he⟩ := own_shape ho; cases e; exact he
 have hsm := own_sl9 ho
 have HK5 := hide (HK4.out.tr hk5)
 have K35 := hide ((h1X).tr hk5)
 have hA5 := HA.out.kept K35.out (by simp)
 have HO5 := hide ho
 have HG5 : Hid (∀ g, (Value.slice mo M mc).ownBlock = some g -> w.heap.size + 2 <= g) := fun g hg => by have h1 := (own_blk ho hg).1; have h2 := HK4.out.size; omega
 clear ho hk5 HA cW K35
 have cW := hA5.c (j := 0) (u := .int .i64 W) rfl
 have HA5 := hide hA5
 clear hA5
 obtain ⟨k2, hk1, hk2⟩ : ∃ k : Wk, k.sum = (M : Int) ∧ k.id = Sha.ident (W : Int) ms := ⟨⟨(M : Nat), Sha.ident (W : Int) ms, Sha.ident_len _ _, wf64 (by omega) (by omega)⟩, rfl, rfl⟩
 have hwk2 : wkEq k2 tk = true := by
  have := HTT.out
  rw [HWW.out, HZZ.out, HMS.out] at this
  rw [wkEq, Bool.and_eq_true, decide_eq_true_eq, decide_eq_true_eq, hk1, hk2, HQ.out.2.2.1, HQ.out.2.2.2, HMT.out]; exact ⟨rfl, this⟩
 have heq2 := fun W => Tryz.eqlSeal k2 tk W
 have hso := fun X (hX : Kept [] w5 X) => sealOf_ok (W : Int) mo M mc ms X k2 hk1 hk2 hml hmc (hsm.kept hX (by simp)) (by omega)
 have HML := hide hml
 clear hk1 hk2 hml hmc hsm heq hwk
 refine th w5 fun g0 => ?_
 generalize World.drew w5 = u0 at g0  ⊢
 refine t5 0 (.pointer (some ⟨O, 0, none⟩)) rfl (fun _ _ _ h => appQ _ 24 _ (by decide) (by decide) _ _ _ h) (Or.inl ⟨by rfl, fun w hSw => by go_simp⟩) g0 ?_
 simp only [zz]
 refine t5 1 (.int .i64 W) rfl (fun _ _ _ h => appQ _ 25 _ (by decide) (by decide) _ _ _ h) (Or.inl ⟨by rfl, fun w hSw => by have c0 := qc hSw cW; go_simp⟩) g0 ?_
 simp only [zz]
 refine t5 2 (.slice mo M mc) rfl (fun _ _ _ h => appQ _ 26 _ (by decide) (by decide) _ _ _ h) (Or.inl ⟨by rfl, fun w hSw => by go_simp⟩) g0 ?_
 simp only [zz]
 refine t5 4 (.pointer (some ⟨O, 35, none⟩)) rfl (fun _ _ _ h => appQ _ 28 _ (by decide) (by decide) _ _ _ h) (Or.inl ⟨by rfl, fun w hSw => by go_simp⟩) g0 ?_
 simp only [zz]
 refine t5 5 (.agg tk.cells.toArray) rfl (fun _ _ _ h => appQ _ 29 _ (by decide) (by decide) _ _ _ h) (yieldsIf_load_mid (by rfl) _ _ rfl O 35 rfl tk.cells _ (fun W h => (HA5.out.kept h (by simp)).t) Tryz.underlying71 rfl (Tryz.infoSeal tk)) g0 ?_
 simp only [zz]
 refine rd 3 fun K hK => ?_
 go_simp
 refine (hso _ g0).mono ?_
 rintro e u1 ⟨rfl, hq⟩
 refine hK.out _ _ (g0.tr hq) (fun g1 => ?_)
 clear hK K
 try simp only [zz]
 clear hq g0 hso
 refine t5 6 (.bool false) rfl (fun _ _ _ h => appQ _ 30 _ (by decide) (by decide) _ _ _ h) (Or.inl ⟨by rfl, fun w hSw => by go_simp⟩) g1 ?_
 simp only [zz]
 refine qd ?_
 have K6 := hide (HK5.out.tr g1)
 have HO6 := hide (own_same HO5.out (fun g hg => g1.block g (own_blk HO5.out hg).2.1 (by simp)))
 clear HO5
 have cA2 := (K6.out).cellOf cA (by simp)
 have fA2 := ((K6.out).frozen (show w.heap.size < W0.heap.size by omega) (by simp)).trans fA
 have kA : Kept [w.heap.size] u1 (u1.setCell ⟨w.heap.size, 0, none⟩ (.slice mo M mc)) := (Kept.refl _ _).setCell (by simp) _
 have cB2 := kA.cellOf ((K6.out).cellOf cB (by simp)) (by simp)
 have fB2 := (kA.frozen (Nat.lt_of_lt_of_le (show w.heap.size + 1 < W0.heap.size by omega) (K6.out).size) (by simp)).trans (((K6.out).frozen (show w.heap.size + 1 < W0.heap.size by omega) (by simp)).trans fB)
 go_wp2
 refine leaves_cons (f := 48) (args := #[.pointer (some ⟨w.heap.size, 0, none⟩), .pointer (some ⟨w.heap.size + 1, 0, none⟩)]) (by simp) (by simp [go_sem]) ?_
 refine (acatch_idle w.heap.size (w.heap.size + 1) _).mono ?_
 rintro e u' w'' ⟨rfl, rfl, rfl⟩
 obtain ⟨W3, hW3⟩ := nm ((u1.setCell ⟨w.heap.size, 0, none⟩ (.slice mo M mc)).setCell ⟨w.heap.size + 1, 0, none⟩ (.int .i64 0))
 have kB : Kept [w.heap.size + 1] (u1.setCell ⟨w.heap.size, 0, none⟩ (.slice mo M mc)) W3 := by rw [<-hW3]; exact (Kept.refl _ _).setCell (by simp) _
 have eA : W3.cell? ⟨w.heap.size, 0, none⟩ = some ((.slice mo M mc)) := kB.cellOf (World.cell?_setCell_same _ _ _ cA2) (by simp)
 have eB : W3.cell? ⟨w.heap.size + 1, 0, none⟩ = some (.int .i64 0) := by rw [<-hW3]; exact World.cell?_setCell_same _ _ _ cB2
 have hK : Kept [] w W3 := ((kb.tr (K6.out)).tr kA).tr kB
 rw [hW3]
 have hres := fun (tm : Array Value) h2 h3 => app_results (tmps := tm) eA eB h2 h3
 simp [Leaves, settle, hres]
 exact ⟨⟨mo, mc, by rw [HZZ.out, HMS.out, HML.out], by rw [HZZ.out, HMS.out, HML.out]; exact own_base (own_same (own_same HO6.out (fun g hg => kA.block g (own_blk HO6.out hg).2.1 (by have := HG5.out g hg; simp; omega))) (fun g hg => kB.block g (Nat.lt_of_lt_of_le (own_blk HO6.out hg).2.1 kA.size) (by have := HG5.out g hg; simp; omega))) (by have := HK4.out.size; omega)⟩, hK⟩
theorem apply_some (bo : Option Addr) (bn bc : Nat) (bs : List UInt8) (ao : Option Addr) (n cap : Nat) (xs : List UInt8) (w : World) (hb : InB8 w bo bn bc bs) (h : InB8 w ao n cap xs) (hl : bn <= 131072) (d : Dta) (hd : decD xs = some d) :
  Calls Tryz.prog 16 #[.slice bo bn bc, .slice ao n cap] w fun e w' => TellB w w' e (applyE bs xs) (applyB bs xs) ∧ Kept [] w w' := by
 have hbl := hb.len
 have hl2 : ¬ 131072 < bs.length := by omega
 by_cases hB : bs.length = d.blen ∧ Sha.ident d.width bs = d.bid
 ·by_cases hT : Sha.ident d.width (doIs d.size bs d.steps) = d.tid
  ·have e1 : applyE bs xs = 0 := by unfold applyE; rw [if_neg hl2, hd]; simp only; rw [if_pos hB, if_pos hT]
   have e2 : applyB bs xs = doIs d.size bs d.steps := by unfold applyB; rw [e1, if_pos rfl, hd]
   rw [e1, e2]
   exact app_yes bo bn bc bs ao n cap xs w hb h (by omega) d hd hB hT
  ·have e1 : applyE bs xs = 182 := by unfold applyE; rw [if_neg hl2, hd]; simp only; rw [if_pos hB, if_neg hT]
   have e2 : applyB bs xs = [] := by unfold applyB; rw [e1, if_neg (by decide)]
   rw [e1, e2]
   exact app_targ bo bn bc bs ao n cap xs w hb h (by omega) d hd hB hT
 ·have e1 : applyE bs xs = 181 := by unfold applyE; rw [if_neg hl2, hd]; simp only; rw [if_neg hB]
  have e2 : applyB bs xs = [] := by unfold applyB; rw [e1, if_neg (by decide)]
  rw [e1, e2]
  exact app_base bo bn bc bs ao n cap xs w hb h (by omega) d hd hB
theorem applyE_dec {bs xs : List UInt8} (h : applyE bs xs = 0 ∨ applyE bs xs = 181) : ∃ d, decD xs = some d := by
 cases hd : decD xs with
 | some d => exact ⟨d, rfl⟩
 | none =>
  exfalso
  unfold applyE at h
  rw [hd] at h
  simp only at h
  split at h <;> rcases h with h | h <;> cases h
theorem apply_ok (bo : Option Addr) (bn bc : Nat) (bs : List UInt8) (ao : Option Addr) (n cap : Nat) (xs : List UInt8) (w : World) (hb : InB8 w bo bn bc bs) (h : InB8 w ao n cap xs) :
  Calls Tryz.prog 16 #[.slice bo bn bc, .slice ao n cap] w fun e w' => TellB w w' e (applyE bs xs) (applyB bs xs) ∧ Kept [] w w' := by
 have hbl := hb.len
 by_cases hl : 131072 < bn
 ·have e1 : applyE bs xs = 2 := by unfold applyE; rw [if_pos (by omega)]
  have e2 : applyB bs xs = [] := by unfold applyB; rw [e1, if_neg (by decide)]
  rw [e1, e2]
  exact app_long bo bn bc bs ao n cap xs w hb h hl
 ·have hl2 : ¬ 131072 < bs.length := by omega
  cases hd : decD xs with
  | none =>
   have e1 : applyE bs xs = 180 := by unfold applyE; rw [if_neg hl2, hd]
   have e2 : applyB bs xs = [] := by unfold applyB; rw [e1, if_neg (by decide)]
   rw [e1, e2]
   exact app_none bo bn bc bs ao n cap xs w hb h (by omega) (fun W hW => (readOrd_ok ao n cap xs W hW).mono fun e w' he => ⟨by have h1 := he.1; unfold OrdPost at h1; rw [hd] at h1; exact h1, he.2⟩)
  | some d => exact apply_some bo bn bc bs ao n cap xs w hb h (by omega) d hd
end

section
open Dlt
theorem take_snoc' (l : List UInt8) (d : UInt8) (k : Nat) (h : k < l.length) : l.take (k + 1) = l.take k ++ [l.getD k d] := by
 rw [List.take_succ_eq_append_getElem h]
 simp [List.getElem?_eq_getElem h]
theorem same_some (b1 o1 c1 b2 o2 c2 n : Nat) (xs ys : List UInt8) (w : World) (hx : xs.length = n) (hy : ys.length = n) (hm : n <= 4611686018427387904)
  (h1 : ∀ i, i < xs.length -> w.cell? ⟨b1, o1 + i, none⟩ = some (.int .u8 (xs.getD i 0).toNat)) (h2 : ∀ i, i < ys.length -> w.cell? ⟨b2, o2 + i, none⟩ = some (.int .u8 (ys.getD i 0).toNat)) :
  Calls Tryz.prog 22 #[.slice (some ⟨b1, o1, none⟩) n c1, .slice (some ⟨b2, o2, none⟩) n c2] w fun e w' => e = .returned (.bool (decide (xs = ys))) ∧ ∃ k, w' = w.drewN k := by
 go_enter Tryz.func22, Tryz.ntmps22
 go_wp2
 go_loopw [5] (fun i wr => ∃ k : Nat, k <= n ∧ i = .int .i64 k ∧ xs.take k = ys.take k ∧ ∃ j, wr = w.drewN j) (fun i wr => n - (intOf i).toNat)
 case atStart => exact ⟨0, Nat.zero_le _, rfl, by simp, 0, rfl⟩
 case round =>
  obtain ⟨k, hk, rfl, heq, j, hwr⟩ := hrel
  subst hwr
  have HE : Hid (xs.take k = ys.take k) := heq
  clear heq
  by_cases hlt : k < n
  ·have e1 := h1 k (by omega)
   have e2 := h2 k (by omega)
   have hc1 : (xs.getD k 0).toNat < 256 := UInt8.toNat_lt _
   have hc2 : (ys.getD k 0).toNat < 256 := UInt8.toNat_lt _
   by_cases hcc : xs.getD k 0 = ys.getD k 0
   ·have hcn : (((xs.getD k 0).toNat : Int) != ((ys.getD k 0).toNat : Int)) = false := by rw [hcc]; simp
    have HC : Hid (xs.getD k 0 = ys.getD k 0) := hcc
    clear hcc h1 h2
    generalize (xs.getD k 0).toNat = c at e1 hcn hc1
    generalize (ys.getD k 0).toNat = d at e2 hcn hc2
    go_wp2
    go_quiet (fail)
    go_wp2
    go_roundw
    case rel => exact ⟨k + 1, by omega, by go_num, by rw [take_snoc' xs 0 k (by omega), take_snoc' ys 0 k (by omega), HE.out, HC.out], _, rfl⟩
    case measure => simp [intOf]; omega
   ·have hcn : (((xs.getD k 0).toNat : Int) != ((ys.getD k 0).toNat : Int)) = true := by
     simp only [bne_iff_ne, ne_eq]
     intro h
     exact hcc (UInt8.toNat_inj.1 (by omega))
    have hfin : Hid (decide (xs = ys) = false) := by
     show _ = _
     simp only [decide_eq_false_iff_not]
     rintro rfl
     exact hcc rfl
    clear hcc h1 h2
    generalize (xs.getD k 0).toNat = c at e1 hcn hc1
    generalize (ys.getD k 0).toNat = d at e2 hcn hc2
    go_wp2
    go_quiet (fail)
    go_wp2
    go_ret
    exact ⟨by rw [hfin.out]; rfl, j + nq, by simp⟩
  ·have hfin : Hid (decide (xs = ys) = true) := by
    have := HE.out
    rw [List.take_of_length_le (by omega), List.take_of_length_le (by omega)] at this
    show _ = _
    simpa using this
   clear h1 h2
   go_wp2
   go_ret
   exact ⟨by rw [hfin.out]; rfl, j, rfl⟩
theorem same_len (a1 a2 : Option Addr) (n1 c1 n2 c2 : Nat) (w : World) (hn : n1 ≠ n2) :
  Calls Tryz.prog 22 #[.slice a1 n1 c1, .slice a2 n2 c2] w fun e w' => e = .returned (.bool false) ∧ w' = w := by
 have h : ((n1 : Int) != (n2 : Int)) = true := by simp; omega
 go_enter Tryz.func22, Tryz.ntmps22
 go_wp2
 go_ret
 exact ⟨rfl, rfl⟩
theorem same_none (a1 a2 : Option Addr) (c1 c2 : Nat) (w : World) :
  Calls Tryz.prog 22 #[.slice a1 0 c1, .slice a2 0 c2] w fun e w' => e = .returned (.bool true) ∧ w' = w := by
 go_enter Tryz.func22, Tryz.ntmps22
 go_wp2
 go_loop [5] (fun i => i = .int .i64 0) (fun i => 0)
 case atStart => rfl
 case round =>
  subst hrel
  go_wp2
  go_ret
  exact ⟨rfl, rfl⟩
theorem same_any (a1 a2 : Option Addr) (n1 c1 n2 c2 : Nat) (xs ys : List UInt8) (w : World) (hx : xs.length = n1) (hy : ys.length = n2) (hm : n1 <= 4611686018427387904) (h1 : Sl w a1 xs) (h2 : Sl w a2 ys) :
  Calls Tryz.prog 22 #[.slice a1 n1 c1, .slice a2 n2 c2] w fun e w' => e = .returned (.bool (decide (xs = ys))) ∧ ∃ k, w' = w.drewN k := by
 by_cases hn : n1 = n2
 ·subst hn
  by_cases h0 : xs = []
  ·subst h0
   obtain rfl : ys = [] := List.eq_nil_of_length_eq_zero (by rw [hy, <-hx]; rfl)
   obtain rfl : n1 = 0 := by simpa using hx.symm
   exact (same_none a1 a2 c1 c2 w).mono fun e w' ⟨he, hw⟩ => ⟨he, 0, hw⟩
  ·have h0' : ys ≠ [] := fun h => h0 (List.eq_nil_of_length_eq_zero (by rw [hx, <-hy, h]; rfl))
   obtain ⟨b1, o1, rfl, _, hc1⟩ := h1.open h0
   obtain ⟨b2, o2, rfl, _, hc2⟩ := h2.open h0'
   exact same_some b1 o1 c1 b2 o2 c2 n1 xs ys w hx hy hm hc1 hc2
 ·refine (same_len a1 a2 n1 c1 n2 c2 w hn).mono fun e w' ⟨he, hw⟩ => ⟨?_, 0, hw⟩
  rw [he]
  have : decide (xs = ys) = false := by
   simp only [decide_eq_false_iff_not]
   rintro rfl
   exact hn (hx.symm.trans hy)
  rw [this]
theorem same_yes (a1 a2 : Option Addr) (n c1 c2 : Nat) (xs : List UInt8) (w : World) (hx : xs.length = n) (hm : n <= 4611686018427387904) (h1 : Sl w a1 xs) (h2 : Sl w a2 xs) :
  Calls Tryz.prog 22 #[.slice a1 n c1, .slice a2 n c2] w fun e w' => e = .returned (.bool true) ∧ ∃ k, w' = w.drewN k := by
 have := same_any a1 a2 n c1 n c2 xs xs w hx hx hm h1 h2
 rw [show decide (xs = xs) = true from by simp] at this
 exact this
def row16 (f : UInt8) : List UInt8 := f :: List.replicate 15 0
theorem Tryz.make16 (w : World) : (Instr.makeSlice 27 (.int .i64 16) (.int .i64 16)).run Tryz.prog w = .ok (.slice (some ⟨w.heap.size, 0, none⟩) 16 16) (w.alloc (.cells (bys (List.replicate 16 0)).toArray 5)) := by
 kernel_rfl
theorem row18_ok (f : UInt8) (w : World) :
  Calls Tryz.prog 27 #[.int .u8 f.toNat] w fun e w' => e = .returned (.slice (some ⟨w.heap.size, 0, none⟩) 16 16) ∧ w'.ownsRow w.heap.size 5 1 (.slice (some ⟨w.heap.size, 0, none⟩) 16 16) 16 (bys (row16 f)) ∧ Kept [] w w' := by
 have hmk := Tryz.make16 w
 have hn := heap_new w (.cells (bys (List.replicate 16 0)).toArray 5)
 have hk1 := ka w (.cells (bys (List.replicate 16 0)).toArray 5)
 obtain ⟨w1, hw1⟩ := nm (w.alloc (.cells (bys (List.replicate 16 0)).toArray 5))
 rw [hw1] at hmk hn hk1
 have c0 : w1.cell? ⟨w.heap.size, 0, none⟩ = some (.int .u8 0) := by rw [cell_of_row _ _ _ _ _ _ hn]; rfl
 have f0 : w1.frozen? ⟨w.heap.size, 0, none⟩ = false := frozen_of_row _ _ _ _ _ hn
 have hs := heap_setCell_same w1 _ 0 _ _ (.int .u8 f.toNat) hn
 have HK : Hid (Kept [] w (w1.setCell ⟨w.heap.size, 0, none⟩ (.int .u8 f.toNat))) := hk1.trans ((Kept.refl [w.heap.size] w1).setCell (by simp) _) (by simp)
 have HO : Hid ((w1.setCell ⟨w.heap.size, 0, none⟩ (.int .u8 f.toNat)).ownsRow w.heap.size 5 1 (.slice (some ⟨w.heap.size, 0, none⟩) 16 16) 16 (bys (row16 f))) :=
  ⟨rfl, .inr ⟨w.heap.size, 16, _, rfl, Nat.le_refl _, hs, Nat.le_refl _, by decide, rfl, rfl⟩⟩
 obtain ⟨g, hg⟩ := nm (w.heap.size)
 rw [hg] at hmk c0 f0 HO HK ⊢
 clear hn hk1 hs hw1 hg
 go_enter Tryz.func27, Tryz.ntmps27
 go_wp2
 go_ret
 exact ⟨rfl, HO.out, HK.out⟩
def kbase : List UInt8 := row16 1 ++ row16 2 ++ [3]
def ktarg : List UInt8 := [9] ++ row16 1 ++ [8]
theorem kn_sign : signE 32 kbase.length 16 = 0 ∧ signS 32 kbase 16 = sign 32 kbase 16 := by
 have h : signE 32 kbase.length 16 = 0 := by decide +kernel
 refine ⟨h, ?_⟩
 unfold signS
 rw [if_pos h]
 rfl
theorem kn_make : makeE (sign 32 kbase 16) ktarg = 0 := by decide +kernel
theorem kn_got : applyE kbase (makeB (sign 32 kbase 16) ktarg) = 0 ∧ applyB kbase (makeB (sign 32 kbase 16) ktarg) = ktarg ∧ applyE (kbase.take 32) (makeB (sign 32 kbase 16) ktarg) = 181 ∧ applyB (kbase.take 32) (makeB (sign 32 kbase 16) ktarg) = [] := by decide +kernel
theorem kn_two : (sign 32 kbase 16).blocks.length = 2 := by decide +kernel
end

end Go.Proofs.YtmklodligplbaabGreat
