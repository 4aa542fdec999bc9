import Derived.Test.YtmklodligplbaaaGreatL18em
import Derived.Test.YtmklodligplbaaaGreatL18sm
import Derived.Test.YtmklodligplbaaaGreatD9cm
open Go.RowKit
set_option linter.unusedVariables false
set_option linter.unusedSimpArgs false
set_option maxRecDepth 100000
set_option maxHeartbeats 51200000
namespace Go.Proofs.YtmklodligplbaaaGreat
section
open Dlt
theorem app18 {w : World} {B : Nat} {po : Option Addr} {q pc : Nat} {ys : List UInt8} (h : OwnB w B (.slice po q pc) ys) (hb : B <= w.heap.size) (so : Option Addr) (m sc : Nat) (zs : List UInt8) (hm : zs.length = m) (hs : Sl w so zs) (h0 : so = none -> zs = [] ∧ sc = 0) (hl : q + m <= 1000000000) :
  ∃ po' pc' w', (Builtin.append_ #[22, 22] 22 #[.slice po q pc, .slice so m sc]).run Tryz.prog w = .ok (.slice po' (q + m) pc') w' ∧ OwnB w' B (.slice po' (q + m) pc') (ys ++ zs) ∧ Kept (Value.slice po q pc).ownBlock.toList w w' := by
 have hl1 := own_len h
 obtain ⟨v', w', hrun, ho, hk⟩ := run_appSl w B (.slice po q pc) ys zs h so m sc hm hs h0 (by omega) hb
 obtain ⟨po', pc', rfl, _⟩ := own_shape ho
 rw [show (ys ++ zs).length = q + m by rw [List.length_append, hl1, hm]] at hrun ho
 exact ⟨po', pc', w', hrun, ho, hk⟩
theorem own_far {w w1 w2 : World} {B : Nat} {v : Value} {ys : List UInt8} (h : OwnB w1 B v ys) (hk : Kept [] w w1) (hB : w.heap.size <= B) (k2 : Kept v.ownBlock.toList w1 w2) : Kept [] w w2 :=
 hk.trans k2 (fun i hi hl => by have := (h.far i (by simpa using hi)).1; omega)
theorem refnum8 (v : Nat) (hv : v <= 2147483647) (w : World) : Calls Tryz.prog 75 #[.int .i64 v] w fun e w' => ∃ m so sc, (Pure.enc v).length = m ∧ m <= 5 ∧ e = .returned (.slice so m sc) ∧ Sl w' so (Pure.enc v) ∧ (so = none -> Pure.enc v = [] ∧ sc = 0) ∧ Kept [] w w' :=
 (refnumber_ok v hv w).mono fun e w' h => by
  obtain ⟨vb, rfl, _, ho, hk⟩ := h
  obtain ⟨so, sc, rfl, _⟩ := own_shape ho
  have hi := own_in8 ho
  exact ⟨_, so, sc, rfl, Pure.enc_len5 hv, rfl, hi.sl, hi.nil, hk⟩
end

section
open Dlt
structure Tr where
 f : Nat
 c : Nat
 ao : Option Addr
 n : Nat
 cap : Nat
 bs : List UInt8
def Tr.cells (x : Tr) : List Value := stp3 (x.f : Nat) (x.c : Nat) (.slice x.ao x.n x.cap)
def Tr.stp (x : Tr) : Stp := if 0 < x.c then .copy x.f x.c else .lit x.bs
structure Tr.Ok (w : World) (x : Tr) : Prop where
 inb : InB8 w x.ao x.n x.cap x.bs
 f : x.f <= 2147483647
 c : x.c <= 2147483647
 n : x.n <= 100000000
theorem Tr.Ok.kept {w w' : World} {x : Tr} (h : x.Ok w) (hk : Kept [] w w') : x.Ok w' := ⟨h.inb.kept hk, h.f, h.c, h.n⟩
def TrsAt (w : World) (lo : Option Addr) (T : List Tr) : Prop := ∀ i x, T[i]? = some x -> (∃ b off, lo = some ⟨b, off, none⟩ ∧ w.rangeAt b (off + i * 3) x.cells) ∧ x.Ok w
theorem TrsAt.kept {w w' : World} {lo : Option Addr} {T : List Tr} (h : TrsAt w lo T) (hk : Kept [] w w') : TrsAt w' lo T := fun i x hx => by
 obtain ⟨⟨b, off, e, hr⟩, ho⟩ := h i x hx
 exact ⟨⟨b, off, e, fun j u hu => hk.cellOf (hr j u hu) (by simp)⟩, ho.kept hk⟩
def encT (T : List Tr) : List UInt8 := T.flatMap fun x => encI x.stp
theorem encT_map (T : List Tr) : encT T = (T.map Tr.stp).flatMap encI := by unfold encT; rw [List.flatMap_map]
theorem encT_take {T : List Tr} {k : Nat} {x : Tr} (h : T[k]? = some x) : encT (T.take (k + 1)) = encT (T.take k) ++ encI x.stp := by
 obtain ⟨hl, hk⟩ := List.getElem?_eq_some_iff.1 h
 unfold encT
 rw [List.take_succ_eq_append_getElem hl, List.flatMap_append, hk]
 simp
theorem encT_le (T : List Tr) (k : Nat) : (encT (T.take k)).length <= (encT T).length := by
 conv => rhs; rw [<-List.take_append_drop k T]
 unfold encT
 rw [List.flatMap_append, List.length_append]
 omega
def writtenB (W Z N : Nat) (bid : List UInt8) (M : Nat) (tid : List UInt8) (T : List Tr) : List UInt8 :=
 sealed ([68] ++ Pure.enc W ++ Pure.enc Z ++ Pure.enc N ++ bid.take W ++ Pure.enc M ++ tid.take W ++ Pure.enc T.length ++ encT T)
theorem rtext_ok (ao : Option Addr) (n cap : Nat) (bs : List UInt8) (w : World) (h : InB8 w ao n cap bs) (hn : n <= 100000000) :
  Calls Tryz.prog 77 #[.slice ao n cap] w fun e w' => ∃ m so sc, (Pure.enc n ++ bs).length = m ∧ m <= n + 5 ∧ e = .returned (.slice so m sc) ∧ Sl w' so (Pure.enc n ++ bs) ∧ (so = none -> Pure.enc n ++ bs = [] ∧ sc = 0) ∧ Kept [] w w' := by
 have hnu := refnumber_ok n (by omega) w
 have HB := hide h
 have hl5 := Pure.enc_len5 (v := n) (by omega)
 obtain ⟨m1, hm1⟩ := nm ((Pure.enc n).length)
 have HM1 := hide hm1
 rw [hm1] at hnu hl5
 clear h hm1
 go_enter Tryz.func77, Tryz.ntmps77
 go_upto_region 2 with (go_at_call 75; refine hnu.mono ?_; rintro r w2 ⟨vb, rfl, _, ho, hk⟩; obtain ⟨so, sc, rfl, _⟩ := own_shape ho; have HO := hide (ai ho hk); clear hnu ho hk)
 have hob : OwnB w2 w.heap.size (.slice so m1 sc) (Pure.enc n) := by unfold OwnB; rw [HM1.out]; exact HO.out.1
 obtain ⟨p1, c1, x1, hrun, hoj, hkj⟩ := app18 hob HO.out.2.size ao n cap bs HB.out.len (HB.out.sl.kept HO.out.2 (by simp)) HB.out.nil (by omega)
 have HX := hide (ai hoj (own_far hob HO.out.2 (Nat.le_refl _) hkj))
 clear hob hoj hkj HO
 go_wp2_with (refine wpList_app_run rfl (.tmp 7) (.tmp 8) 22 22 rfl (.slice so m1 sc) (.slice ao n cap) rfl rfl (.slice p1 (m1 + n) c1) x1 hrun ?_; clear hrun)
 go_ret
 have hi := HX.out.1.in8
 exact ⟨m1 + n, p1, c1, hi.len, by omega, rfl, hi.sl, hi.nil, HX.out.2⟩
end

end Go.Proofs.YtmklodligplbaaaGreat
