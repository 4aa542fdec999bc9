/-
  Contract: freightref9.Rounds. (Written by tools/qte.py.)
-/
import Derived.Test.YtngaimahhgmciaaGreatDoorQtdp
import Derived.Test.YtngaimahhgmciaaGreatDoorQ9qp
namespace Go.Proofs.YtngaimahhgmciaaGreatDoor
open Go.RowKit Go.Lib Go.Sort
set_option linter.unusedVariables false
set_option linter.unusedSimpArgs false

def z32 : List UInt8 := List.replicate 32 0
def zeroW : Array Value := (wcs (.slice none 0 0) (.slice none 0 0) (.slice none 0 0) (.slice none 0 0) (.slice none 0 0) 0 z32).toArray
theorem Tryz.buildWk9 (w : World) : (Instr.build 77 #[]).run Tryz.prog w = .ok (.agg zeroW) w := by kernel_rfl
/-- What a walk has written down lies within U. -/
structure Rok (U : List (List UInt8)) (R : Rw) : Prop where
  n : Up R.need ∧ ∀ q ∈ R.need, q ∈ U
  b : Up R.bad ∧ ∀ q ∈ R.bad, q ∈ U
  l : Up R.lacks ∧ ∀ q ∈ R.lacks, q ∈ U
  a : R.asked.Nodup ∧ ∀ q ∈ R.asked, q ∈ U
theorem in_wth {R U : List (List UInt8)} {i : List UInt8} (h : Up R ∧ ∀ q ∈ R, q ∈ U) (hi : i ∈ U) : Up (wth R i) ∧ ∀ q ∈ wth R i, q ∈ U := ⟨up_wth h.1, fun q hq => by
  rcases mem_wth.1 hq with h1 | rfl
  · exact h.2 q h1
  · exact hi⟩
section
variable {U : List (List UInt8)} {R : Rw} {f : List UInt8 → An} {i : List UInt8}
theorem Rok.lenN (h : Rok U R) (hU : (U.length + 2) * 32 ≤ 140737488355328) : (R.need.length + 2) * 32 ≤ 140737488355328 := by have := nodup_le (up_nodupT h.n.1) h.n.2; omega
theorem Rok.lenB (h : Rok U R) (hU : (U.length + 2) * 32 ≤ 140737488355328) : (R.bad.length + 2) * 32 ≤ 140737488355328 := by have := nodup_le (up_nodupT h.b.1) h.b.2; omega
theorem Rok.lenL (h : Rok U R) (hU : (U.length + 2) * 32 ≤ 140737488355328) : (R.lacks.length + 2) * 32 ≤ 140737488355328 := by have := nodup_le (up_nodupT h.l.1) h.l.2; omega
theorem Rok.lenA (h : Rok U R) (hU : (U.length + 2) * 32 ≤ 140737488355328) : (R.asked.length + 1) * 32 ≤ 140737488355328 := by have := nodup_le h.a.1 h.a.2; omega
theorem Rok.needs (h : Rok U R) (hi : i ∈ U) : Rok U { R with need := wth R.need i } := ⟨in_wth h.n hi, h.b, h.l, h.a⟩
theorem Rok.ask (h : Rok U R) (hi : i ∈ U) : Rok U (R.ask f i).2 := by
  unfold Rw.ask
  by_cases hin : i ∈ R.asked
  · rw [if_pos hin]; exact h
  · rw [if_neg hin]
    have ha : (R.asked ++ [i]).Nodup ∧ ∀ q ∈ R.asked ++ [i], q ∈ U := ⟨List.nodup_append.2 ⟨h.a.1, by simp, fun a ha b hb => by simp only [List.mem_singleton] at hb; subst hb; rintro rfl; exact hin ha⟩, fun q hq => by
      rcases List.mem_append.1 hq with h1 | h1
      · exact h.a.2 q h1
      · simp only [List.mem_singleton] at h1; subst h1; exact hi⟩
    cases f i with
    | fail => exact ⟨h.n, h.b, h.l, ha⟩
    | lack => exact ⟨h.n, h.b, in_wth h.l hi, ha⟩
    | data xs => exact ⟨h.n, h.b, h.l, ha⟩
theorem ask_false (h : (R.ask f i).1 = false) : f i = .fail := by
  unfold Rw.ask at h
  split at h
  · cases h
  · cases hf : f i with
    | fail => rfl
    | lack => rw [hf] at h; cases h
    | data xs => rw [hf] at h; cases h
theorem ask_need : (R.ask f i).2.need = R.need := by
  unfold Rw.ask
  split
  · rfl
  · cases f i <;> rfl
theorem Rok.openE {NX : List (List UInt8)} (h : Rok U R) (hi : i ∈ U) (hX : Up NX ∧ ∀ q ∈ NX, q ∈ U) (hUE : ∀ xs E, f i = .data xs → Tn.parse xs = some E → ∀ e ∈ E, e.id ∈ U) : Rok U (R.openE i NX (f i)).1 ∧ Up (R.openE i NX (f i)).2 ∧ ∀ q ∈ (R.openE i NX (f i)).2, q ∈ U := by
  cases hf : f i with
  | fail => exact ⟨h, hX⟩
  | lack => exact ⟨h, hX⟩
  | data xs =>
    cases hp : Tn.parse xs with
    | none => simp only [Rw.openE, hp]; exact ⟨⟨h.n, in_wth h.b hi, h.l, h.a⟩, hX⟩
    | some E =>
      simp only [Rw.openE, hp]
      have hE := hUE xs E hf hp
      exact ⟨⟨fold_inU h.n.1 h.n.2 (fun q hq => by obtain ⟨e, he, rfl⟩ := List.mem_map.1 hq; exact hE e he), h.b, h.l, h.a⟩, fold_inU hX.1 hX.2 (fun q hq => by unfold fldsE at hq; obtain ⟨e, he, rfl⟩ := List.mem_map.1 hq; exact hE e (List.mem_filter.1 he).1)⟩
end
theorem Wk9.base9 {w : World} {B B2 g : Nat} {va vn vb vd vl : Value} {R : Rw} {dp : List (List UInt8)} {cd : Int} {ci : List UInt8} {X : List (Value × List (List UInt8))} (h : Wk9 w B g va vn vb vd vl R dp cd ci X) (hb : B2 ≤ B) : Wk9 w B2 g va vn vb vd vl R dp cd ci X :=
  have f : ∀ {v : Value} {L : List (List UInt8)}, OwnI w B v L → OwnI w B2 v L := fun h => ⟨own_base9 h.1 hb, h.2⟩
  ⟨h.row, Nat.le_trans hb h.gB, h.cil, f h.a, ⟨f h.n.1, h.n.2⟩, ⟨f h.b.1, h.b.2⟩, ⟨f h.d.1, h.d.2⟩, ⟨f h.l.1, h.l.2⟩, fun p hp => ⟨f (h.x p hp).1, (h.x p hp).2⟩⟩
theorem Wk9.drop9 {w : World} {B g : Nat} {va vn vb vd vl : Value} {R : Rw} {dp : List (List UInt8)} {cd : Int} {ci : List UInt8} {X : List (Value × List (List UInt8))} (h : Wk9 w B g va vn vb vd vl R dp cd ci X) : Wk9 w B g va vn vb vd vl R dp cd ci [] :=
  ⟨h.row, h.gB, h.cil, h.a, h.n, h.b, h.d, h.l, fun p hp => by simp at hp⟩
/-- What Rounds answers. -/
def Ro9 (w : World) (B g : Nat) (f : List UInt8 → An) (cf : List UInt8 → Int) (r : Option (List UInt8) × Rw × List (List UInt8)) : Prop :=
  ∃ va vn vb vd vl dp cd ci, Wk9 w B g va vn vb vd vl r.2.1 dp cd ci [] ∧ ((r.1 = none ∧ cd = 0 ∧ ci = z32 ∧ dp = r.2.2) ∨ ∃ i, r.1 = some i ∧ cd = cf i ∧ ci = i ∧ f i = .fail)

set_option maxHeartbeats 12800000 in
set_option maxRecDepth 100000 in
theorem rounds9_ok {w : World} {si sd sc : Value} {I : List (List UInt8)} {D : List Value} {C : List Int} {f : List UInt8 → An} {cf : List UInt8 → Int} {U : List (List UInt8)} (hS : Sr9 w si sd sc I D C) (hF : Fnd9 w I D C f cf) (ra : Option Addr) (rn rc : Nat) (RL : List Rz) (hrl : RL.length = rn) (hR : Rss w ra RL) (hn : I.length ≤ 4611686018427387904)
    (hUR : ∀ q ∈ RL.map (·.root), q ∈ U) (hUE : ∀ i xs E, f i = .data xs → Tn.parse xs = some E → ∀ e ∈ E, e.id ∈ U) (hUl : (U.length + 2) * 32 ≤ 140737488355328) (hrm : rn ≤ 4611686018427387904) :
    Calls Tryz.prog 30 #[.agg #[si, sd, sc], .slice ra rn rc] w fun e w' => ∃ g, e = .returned (.pointer (some ⟨g, 0, none⟩)) ∧ Ro9 w' w.heap.size g f cf (refW f (RL.map (·.root))) ∧ Kept [] w w' := by
  obtain ⟨S, hSS⟩ : ∃ r, r = w.heap.size := ⟨_, rfl⟩
  obtain ⟨w1, hw1⟩ : ∃ r, r = w.alloc (.cells #[si, sd, sc] 39) := ⟨_, rfl⟩
  have h1 := new_atK w (.cells #[si, sd, sc] 39)
  have hk0 : Kept [] w w1 := by rw [hw1]; exact (Kept.refl [] w).alloc _
  have hs1 : w1.heap.size = w.heap.size + 1 := by rw [hw1]; show (w.heap.push _).size = _; simp
  rw [← hSS, ← hw1] at h1
  have HSR : Hid (S < w1.heap.size ∧ w1.heap[S]? = some (.cells #[si, sd, sc] 39)) := hide ⟨by omega, h1⟩
  have HB1 := hide hs1
  have HK0 := hide hk0
  have HS := hide (And.intro hS hF)
  have HR := hide (And.intro hrl hR)
  have HU := hide (And.intro hUR (And.intro hUE hUl))
  have hial : (Tryz.prog.info? 39).map (·.size) = some [si, sd, sc].length := Tryz.infoSr9
  have hzw := Tryz.buildWk9
  obtain ⟨g, hg⟩ : ∃ r, r = w1.heap.size := ⟨_, rfl⟩
  obtain ⟨w2, hw2⟩ : ∃ r, r = w1.alloc (.cells zeroW 77) := ⟨_, rfl⟩
  have hk2 : Kept [] w1 w2 := by rw [hw2]; exact (Kept.refl [] w1).alloc _
  have h2 := new_atK w1 (.cells zeroW 77)
  rw [← hg, ← hw2] at h2
  have HWZ : Hid (Wk9 w2 w1.heap.size g (.slice none 0 0) (.slice none 0 0) (.slice none 0 0) (.slice none 0 0) (.slice none 0 0) ⟨[], [], [], []⟩ [] 0 z32 [(.slice none 0 0, [])]) := hide (by
    have hnil : OwnI w2 w1.heap.size (.slice none 0 0) [] := ⟨World.ownsRow_nil _ _ _ _, by simp⟩
    exact ⟨h2, by omega, rfl, hnil, ⟨hnil, apt_nil _⟩, ⟨hnil, apt_nil _⟩, ⟨hnil, apt_nil _⟩, ⟨hnil, apt_nil _⟩, fun p hp => by simp only [List.mem_singleton] at hp; subst hp; exact ⟨hnil, apt_nil _⟩⟩)
  have HKG := hide hk2
  clear hS hF hrl hR hUR hUE hUl h1 h2 hk0 hs1 hk2
  go_enter Tryz.func30, Tryz.ntmps30
  go_upto_region 1 with (fail)
  rw [← hSS, ← hw1]
  clear hSS hw1
  go_upto_region 2 with (fail)
  rw [← hg]
  generalize hw3 : w1.alloc _ = w3
  have hw32 : w2 = w3 := by rw [← hw3, hw2]; kernel_rfl
  subst hw32
  clear hg hw2 hw3 hzw
  go_wp2
  go_loopw [6, 7] (fun x y wr => ∃ (vq : Value) (k : Nat), k ≤ rn ∧ y = .int .i64 k ∧ vq = x ∧ Hid (Wk9 wr w1.heap.size g (.slice none 0 0) (.slice none 0 0) (.slice none 0 0) (.slice none 0 0) (.slice none 0 0) ⟨[], [], [], []⟩ [] 0 z32 [(vq, ((RL.map (·.root)).take k).foldl wth [])] ∧ Kept [] w2 wr)) (fun x y wr => rn - (intOf y).toNat)
  case atStart => exact ⟨_, 0, Nat.zero_le _, rfl, rfl, hide ⟨HWZ.out, Kept.refl _ _⟩⟩
  case round =>
    obtain ⟨vq, k, hk, rfl, rfl, HP⟩ := hrel
    by_cases hlt : k < rn
    · as_aux_lemma =>
      have hlt1 : (k : Int) < (rn : Int) := by omega
      have hkl : k < RL.length := by rw [HR.out.1]; exact hlt
      obtain ⟨bz, oz, hao, hrg⟩ := (HR.out.2.kept ((HK0.out.trans HKG.out (by simp)).trans HP.out.2 (by simp)) (fun _ _ _ => by simp)) k hkl
      subst hao
      have hrr := rz_root_at hrg
      have htk : (RL.map (·.root)).take (k + 1) = (RL.map (·.root)).take k ++ [(RL.getD k rz0).root] := by
        rw [List.take_succ_eq_append_getElem (by rw [List.length_map]; exact hkl)]
        simp [List.getElem?_eq_getElem hkl]
      have hq0 : (RL.getD k rz0).root.length = 32 := (RL.getD k rz0).hr
      have hUk := fold_inU (U := U) (R := []) (l := (RL.map (·.root)).take k) (by simp [Up]) (by simp) (fun q hq => HU.out.1 q (List.mem_of_mem_take hq))
      obtain ⟨q, hqe⟩ : ∃ q, (RL.getD k rz0).root = q := ⟨_, rfl⟩
      rw [hqe] at hrr htk hq0
      have hql := idl q hq0
      obtain ⟨N, hN⟩ : ∃ N, ((RL.map (·.root)).take k).foldl wth [] = N := ⟨_, rfl⟩
      have HTK : Hid (((RL.map (·.root)).take (k + 1)).foldl wth [] = wth N q) := hide (by rw [htk, List.foldl_append, hN]; rfl)
      have HV := HP.out.1
      rw [hN] at HV hUk
      have hvx : OwnI wr w1.heap.size vq N := (HV.x (vq, N) (by simp)).1
      have hva := (HV.x (vq, N) (by simp)).2
      have HVV := hide (And.intro HV hva)
      obtain ⟨al, cl, el, _⟩ := own_shape hvx.1
      obtain ⟨nL, hnL⟩ : ∃ n, N.length = n := ⟨_, rfl⟩
      rw [hnL] at el
      subst el
      have hb1 : (N.length + 2) * 32 ≤ 140737488355328 := by have := nodup_le (up_nodupT hUk.1) hUk.2; have h2 := HU.out.2.2; omega
      have had := with9b_ok w1.heap.size al nL cl N q wr hvx HV.BS hUk.1 hq0 hb1
      clear hqe hkl hrg htk hnL hUk HV hvx hva hN
      go_wp2_with (first
        | refine wpList_load_mid rfl 25 (.tmp 25) rfl bz (oz + k * 65 + 32) rfl (bys q) _ hrr Tryz.underlying25 rfl hql ?_
        | (go_at_call 33; refine had.mono ?_; rintro e w9 ⟨vv, rfl, hvv, hk9, hor⟩; have HN2 := hide (And.intro hvv (And.intro hk9 hor)); clear had hvv hk9 hor))
      go_roundw
      case rel => exact ⟨vv, k + 1, by omega, by go_num, rfl, hide ⟨(HVV.out.1.kept HN2.out.2.1).with_ (X := [(.slice al nL cl, N)]) (v := vv) (L := ((RL.map (·.root)).take (k + 1)).foldl wth []) (by rw [HTK.out]; exact HN2.out.1) (Apt.withd HVV.out.2 HVV.out.1.a HN2.out.2.2) (fun p hp => .inl (by simpa using hp)), HP.out.2.trans HN2.out.2.1 (by simp)⟩⟩
      case measure => simp [intOf]; omega
    · obtain rfl : k = rn := by omega
      have hlt1 : ¬ (k : Int) < (k : Int) := by omega
      have HA : Hid (Wk9 wr w1.heap.size g (.slice none 0 0) (.slice none 0 0) (.slice none 0 0) (.slice none 0 0) (.slice none 0 0) ⟨[], [], [], []⟩ [] 0 z32 [(vq, canon (RL.map (·.root)))] ∧ Kept [] w1 wr) := hide ⟨by
        have h := HP.out.1
        rw [List.take_of_length_le (by rw [List.length_map, HR.out.1]; exact Nat.le_refl _)] at h
        exact h, HKG.out.trans HP.out.2 (by simp)⟩
      clear HP HWZ
      have HCU : Hid (Up (canon (RL.map (·.root))) ∧ ∀ q ∈ canon (RL.map (·.root)), q ∈ U) := hide ⟨up_canon _, fun q hq => HU.out.1 q (mem_canon.1 hq)⟩
      have HOK0 : Hid (Rok U ⟨[], [], [], []⟩) := hide ⟨⟨by simp [Up], by simp⟩, ⟨by simp [Up], by simp⟩, ⟨by simp [Up], by simp⟩, ⟨by simp, by simp⟩⟩
      obtain ⟨wa, rfl⟩ : ∃ wo, wo = wr := ⟨_, rfl⟩
      go_wp2
      go_loopw [6, 8] (fun x y wr => ∃ (vq va vn vb vl : Value) (R : Rw) (N : List (List UInt8)) (d : Nat), 1 ≤ d ∧ d ≤ 7 ∧ y = .int .i64 d ∧ vq = x ∧ Hid (Wk9 wr w1.heap.size g va vn vb (.slice none 0 0) vl R [] 0 z32 [(vq, N)] ∧ Rok U R ∧ (Up N ∧ ∀ q ∈ N, q ∈ U) ∧ Kept [] w1 wr ∧ Rw.rounds f 6 ⟨[], [], [], []⟩ (canon (RL.map (·.root))) = Rw.rounds f (7 - d) R N)) (fun x y wr => 7 - (intOf y).toNat)
      case atStart => exact ⟨vq, _, _, _, _, _, _, 1, by omega, by omega, rfl, rfl, hide ⟨HA.out.1, HOK0.out, HCU.out, HA.out.2, rfl⟩⟩
      case round =>
        clear HA HOK0 HCU
        obtain ⟨vq, va, vn, vb, vl, R0, N, d, hd1, hd7, rfl, rfl, HP⟩ := hrel
        obtain ⟨na, cn, en, _⟩ := own_shape (HP.out.1.x (vq, N) (by simp)).1.1
        obtain ⟨nn, hnn⟩ : ∃ n, N.length = n := ⟨_, rfl⟩
        have hen : vq = .slice na nn cn := by rw [← hnn]; exact en
        have HNN := hide hnn
        clear en hnn
        subst hen
        have HNU := hide HP.out.2.2.1
        have hnnm : nn ≤ 4611686018427387904 := by have h := nodup_le (up_nodupT HNU.out.1) HNU.out.2; have h2 := HU.out.2.2; have h3 := HNN.out; omega
        by_cases hd : d ≤ 6
        · have hd6 : (d : Int) ≤ 6 := by omega
          obtain ⟨m, hm⟩ : ∃ m, 7 - d = m + 1 := ⟨6 - d, by omega⟩
          have HD : Hid (7 - d = m + 1 ∧ Rw.rounds f 6 ⟨[], [], [], []⟩ (canon (RL.map (·.root))) = Rw.rounds f (m + 1) R0 N) := hide ⟨hm, by rw [← hm]; exact HP.out.2.2.2.2⟩
          have HS0 := hide HP.out
          clear hm HP
          obtain ⟨wb, rfl⟩ : ∃ wo, wo = wr := ⟨_, rfl⟩
          obtain ⟨vd, hvd⟩ : ∃ v : Value, v = .slice none 0 0 := ⟨_, rfl⟩
          obtain ⟨dp, hdp⟩ : ∃ v : List (List UInt8), v = [] := ⟨_, rfl⟩
          have HVD := hide (And.intro hvd hdp)
          rw [← hvd, ← hdp] at HS0
          clear hvd hdp
          go_wp2
          go_loopw [10] (fun y wr => ∃ (va1 vn1 vl1 : Value) (R1 : Rw) (k : Nat), k ≤ nn ∧ y = .int .i64 k ∧ Hid (Wk9 wr w1.heap.size g va1 vn1 vb vd vl1 R1 dp 0 z32 [(.slice na nn cn, N)] ∧ Rok U R1 ∧ Kept [] w1 wr ∧ Rw.asks1 f R0 N = Rw.asks1 f R1 (N.drop k))) (fun y wr => nn - (intOf y).toNat)
          case atStart => exact ⟨_, _, _, R0, 0, Nat.zero_le _, rfl, hide ⟨HS0.out.1, HS0.out.2.1, HS0.out.2.2.2.1, by rw [List.drop_zero]⟩⟩
          case round =>
            clear HS0
            obtain ⟨va1, vn1, vl1, R1, k, hk, rfl, HP⟩ := hrel
            by_cases hlt : k < nn
            · as_aux_lemma =>
              have hlt1 : (k : Int) < (nn : Int) := by omega
              have hkl : k < N.length := by rw [HNN.out]; exact hlt
              have hoN : OwnI wr w1.heap.size (.slice na nn cn) N := (HP.out.1.x (.slice na nn cn, N) (by simp)).1
              obtain ⟨gn, on, hao, hrq⟩ := hoN.ids.1.1 k hkl
              have hq : (N.getD k []).length = 32 := hoN.2 _ (gmem9 hkl)
              have hqin : N.getD k [] ∈ N := gmem9 hkl
              have hdr : N.drop k = N.getD k [] :: N.drop (k + 1) := by rw [List.drop_eq_getElem_cons hkl, List.getD_eq_getElem?_getD, List.getElem?_eq_getElem hkl]; rfl
              obtain ⟨q, hqe⟩ : ∃ q, N.getD k [] = q := ⟨_, rfl⟩
              rw [hqe] at hrq hq hqin hdr
              have hql := idl q hq
              subst hao
              have hqU : q ∈ U := HNU.out.2 q hqin
              have HRQ := hide hrq
              have HV := hide HP.out.1
              have HO := hide HP.out.2.1
              have HQ := hide (And.intro HP.out.2.2.1 HP.out.2.2.2)
              have HDR := hide hdr
              obtain ⟨al, cl, el, _⟩ := own_shape HV.out.n.1.1
              obtain ⟨nL, hnL⟩ : ∃ n, R1.need.length = n := ⟨_, rfl⟩
              rw [hnL] at el
              subst el
              clear hnL hdr hqe hqin hoN hkl HP
              go_upto_region 14 with (fail)
              have cN := HV.out.cn
              have hwith := fun W (hW : Kept [] wr W) => with9b_ok w1.heap.size al nL cl R1.need q W ((HV.out.kept hW).n.1) (HV.out.kept hW).BS HO.out.n.1 hq (HO.out.lenN HU.out.2.2)
              refine wp_region_late (fun w' => Kept [] wr w') (fun i => i == 12) (by kernel_rfl) ?_
              have h0 : Kept [] wr wr.drew := (Kept.refl [] wr).drew
              generalize World.drew wr = v0 at h0 ⊢
              refine wpAnyL_free (i := 0) (v := .pointer (some ⟨g, 0, none⟩)) rfl (by kernel_rfl) (by kernel_rfl) (by kernel_rfl) (fun _ _ _ h => h) (Or.inl ⟨by rfl, fun w _ => by go_simp⟩) ?_
              try simp only [List.getElem_toArray, List.getElem_cons_zero, List.getElem_cons_succ, Act.put, List.setIfInBounds_toArray, List.set_cons_zero, List.set_cons_succ]
              refine wpAnyL_free (i := 1) (v := .pointer (some ⟨g, 0, none⟩)) rfl (by kernel_rfl) (by kernel_rfl) (by kernel_rfl) (fun _ _ _ h => h) (Or.inl ⟨by rfl, fun w _ => by go_simp⟩) ?_
              try simp only [List.getElem_toArray, List.getElem_cons_zero, List.getElem_cons_succ, Act.put, List.setIfInBounds_toArray, List.set_cons_zero, List.set_cons_succ]
              refine wpAnyL_free (i := 2) (v := .pointer (some ⟨g, 0, none⟩)) rfl (by kernel_rfl) (by kernel_rfl) (by kernel_rfl) (fun _ _ _ h => h) (Or.inl ⟨by rfl, fun w _ => by go_simp⟩) ?_
              try simp only [List.getElem_toArray, List.getElem_cons_zero, List.getElem_cons_succ, Act.put, List.setIfInBounds_toArray, List.set_cons_zero, List.set_cons_succ]
              refine wpAnyL_free (i := 3) (v := .pointer (some ⟨g, 1, none⟩)) rfl (by kernel_rfl) (by kernel_rfl) (by kernel_rfl) (fun _ _ _ h => h) (Or.inl ⟨by rfl, fun w _ => by go_simp⟩) ?_
              try simp only [List.getElem_toArray, List.getElem_cons_zero, List.getElem_cons_succ, Act.put, List.setIfInBounds_toArray, List.set_cons_zero, List.set_cons_succ]
              refine wpAnyL_take (i := 4) (v := .slice al nL cl) rfl (by kernel_rfl) (by kernel_rfl) (by kernel_rfl) (by kernel_rfl) (by kernel_rfl) (fun _ _ _ h => h) (Or.inl ⟨by rfl, fun w hSw => by have c := Kept.cellOf hSw cN (by simp); go_simp⟩) h0 ?_
              try simp only [List.getElem_toArray, List.getElem_cons_zero, List.getElem_cons_succ, Act.put, List.setIfInBounds_toArray, List.set_cons_zero, List.set_cons_succ]
              refine wpAnyL_free (i := 5) (v := .slice (some ⟨gn, on, none⟩) nn cn) rfl (by kernel_rfl) (by kernel_rfl) (by kernel_rfl) (fun _ _ _ h => h) (Or.inl ⟨by rfl, fun w _ => by go_simp⟩) ?_
              try simp only [List.getElem_toArray, List.getElem_cons_zero, List.getElem_cons_succ, Act.put, List.setIfInBounds_toArray, List.set_cons_zero, List.set_cons_succ]
              refine wpAnyL_free (i := 6) (v := .int .i64 k) rfl (by kernel_rfl) (by kernel_rfl) (by kernel_rfl) (fun _ _ _ h => h) (Or.inl ⟨by rfl, fun w _ => by go_simp⟩) ?_
              try simp only [List.getElem_toArray, List.getElem_cons_zero, List.getElem_cons_succ, Act.put, List.setIfInBounds_toArray, List.set_cons_zero, List.set_cons_succ]
              refine wpAnyL_free (i := 7) (v := .pointer (some ⟨gn, on + k * 32, none⟩)) rfl (by kernel_rfl) (by kernel_rfl) (by kernel_rfl) (fun _ _ _ h => h) (Or.inl ⟨by rfl, fun w _ => by go_simp⟩) ?_
              try simp only [List.getElem_toArray, List.getElem_cons_zero, List.getElem_cons_succ, Act.put, List.setIfInBounds_toArray, List.set_cons_zero, List.set_cons_succ]
              refine wpAnyL_take (i := 8) (v := .agg (bys q).toArray) rfl (by kernel_rfl) (by kernel_rfl) (by kernel_rfl) (by kernel_rfl) (by kernel_rfl) (fun _ _ _ h => h) (yieldsIf_load_mid (by rfl) _ _ rfl gn (on + k * 32) rfl (bys q) _ (fun W h => fun jj u hu => Kept.cellOf h (hrq jj u hu) (by simp)) Tryz.underlying25 rfl hql) h0 ?_
              try simp only [List.getElem_toArray, List.getElem_cons_zero, List.getElem_cons_succ, Act.put, List.setIfInBounds_toArray, List.set_cons_zero, List.set_cons_succ]
              refine wpAnyL_one (i := 9) (by kernel_rfl) rfl (fun K' hK => ?_)
              rw [if_pos (by rfl)]
              go_simp
              refine (hwith v0 h0).mono ?_
              rintro e w7 ⟨vq', rfl, hol, hk6, hor⟩
              obtain ⟨a', c', e', _⟩ := own_shape hol.1
              obtain ⟨n', hn'⟩ : ∃ n, (wth R1.need q).length = n := ⟨_, rfl⟩
              rw [hn'] at e'
              clear hn'
              subst e'
              have hcs : w7.cell? ⟨g, 1, none⟩ = some (.slice al nL cl) := hk6.cellOf (h0.cellOf cN (by simp)) (by simp)
              have hfz : w7.frozen? ⟨g, 1, none⟩ = false := ((HV.out.kept h0).kept hk6).fz 1
              refine hK.out _ _ (fun _ _ => h0.trans hk6 (by simp)) ?_
              clear hK K'
              try simp only [List.getElem_toArray, List.getElem_cons_zero, List.getElem_cons_succ, Act.put, List.setIfInBounds_toArray, List.set_cons_zero, List.set_cons_succ]
              refine wpAnyL_free (i := 10) (v := .pointer (some ⟨g, 0, none⟩)) rfl (by kernel_rfl) (by kernel_rfl) (by kernel_rfl) (fun _ _ _ h => h) (Or.inl ⟨by rfl, fun w _ => by go_simp⟩) ?_
              try simp only [List.getElem_toArray, List.getElem_cons_zero, List.getElem_cons_succ, Act.put, List.setIfInBounds_toArray, List.set_cons_zero, List.set_cons_succ]
              refine wpAnyL_free (i := 11) (v := .pointer (some ⟨g, 1, none⟩)) rfl (by kernel_rfl) (by kernel_rfl) (by kernel_rfl) (fun _ _ _ h => h) (Or.inl ⟨by rfl, fun w _ => by go_simp⟩) ?_
              try simp only [List.getElem_toArray, List.getElem_cons_zero, List.getElem_cons_succ, Act.put, List.setIfInBounds_toArray, List.set_cons_zero, List.set_cons_succ]
              refine wpAnyL_one (i := 12) (by kernel_rfl) rfl (fun K' hK => ?_)
              rw [if_pos (by rfl)]
              go_simp
              refine hK.out _ _ (fun _ h => by cases h) ?_
              clear hK K'
              try simp only [List.getElem_toArray, List.getElem_cons_zero, List.getElem_cons_succ, Act.put, List.setIfInBounds_toArray, List.set_cons_zero, List.set_cons_succ]
              refine wpAnyL_done (by kernel_rfl) ?_ _
              have hV := HV.out.kept h0
              have hap := Apt.withd hV.n.2 hV.a hor
              have hset := (hV.kept hk6).setN hol hap
              have hks : Kept [g] w7 (w7.setCell ⟨g, 1, none⟩ (.slice a' n' c')) := (Kept.refl [g] w7).setCell (fun _ => by simp) _
              have hoN2 : OwnI w7 w1.heap.size (.slice (some ⟨gn, on, none⟩) nn cn) N := ((hV.kept hk6).x (.slice (some ⟨gn, on, none⟩) nn cn, N) (by simp)).1
              have hgG : gn ∉ [g] := ids_noWalk hoN2 (hV.kept hk6).row gn rfl
              have hrq8 : (w7.setCell ⟨g, 1, none⟩ (.slice a' n' c')).rangeAt gn (on + k * 32) (bys q) := fun jj u hu => hks.cellOf (hk6.cellOf (h0.cellOf (HRQ.out jj u hu) (by simp)) (by simp)) hgG
              have HKF : Hid (Kept [] w1 (w7.setCell ⟨g, 1, none⟩ (.slice a' n' c'))) := hide (((HQ.out.1.trans h0 (by simp)).trans hk6 (by simp)).trans hks (fun j2 hj2 hlt => by have h3 := hV.gB; have : j2 = g := (by simpa using hj2); omega))
              have HWF := hide hset
              have HRQ8 := hide hrq8
              clear hset hap hV hwith cN h0 hk6 hor hol hcs hfz HV hks hoN2 hgG hrq hrq8
              generalize w7.setCell ⟨g, 1, none⟩ (.slice a' n' c') = w8 at HKF HWF HRQ8 ⊢
              have HO2 := hide (HO.out.needs hqU)
              have hask := fun W (hW : Kept [] w8 W) => ask9_ok (HWF.out.kept hW) (HKF.out.trans hW (by simp)) (HS.out.1.kept HK0.out) (HS.out.2.kept HK0.out) q hq HO2.out.l.1 (HO2.out.lenA HU.out.2.2) (HO2.out.lenL HU.out.2.2) hn
              have hrq := HRQ8.out
              have hrowS : w8.rangeAt S 0 [si, sd, sc] := row_rangeK ((HKF.out.block S HSR.out.1 (by simp)).trans HSR.out.2)
              have HO3 := hide (HO2.out.ask (f := f) hqU)
              obtain ⟨R2, hR2⟩ : ∃ R2, ({ R1 with need := wth R1.need q } : Rw) = R2 := ⟨_, rfl⟩
              have HAS : Hid (Rw.asks1 f R1 (N.drop k) = if (R2.ask f q).1 = true then Rw.asks1 f (R2.ask f q).2 (N.drop (k + 1)) else (some q, (R2.ask f q).2)) := hide (by rw [HDR.out, ← hR2]; rfl)
              rw [hR2] at hask HO3
              clear hR2 HRQ8 HDR HO HO2 HRQ hqU
              obtain ⟨b, hb⟩ : ∃ b, (R2.ask f q).1 = b := ⟨_, rfl⟩
              have HB := hide hb
              simp only [hb] at hask
              clear hb
              cases b with
              | true =>
                go_upto_region 15 with (fail)
                refine wp_region_late (fun w' => Kept [] w8 w') (fun i => i == 6) (by kernel_rfl) ?_
                have h0 : Kept [] w8 w8.drew := (Kept.refl [] w8).drew
                generalize World.drew w8 = v0 at h0 ⊢
                refine wpAnyL_free (i := 0) (v := .pointer (some ⟨g, 0, none⟩)) rfl (by kernel_rfl) (by kernel_rfl) (by kernel_rfl) (fun _ _ _ h => h) (Or.inl ⟨by rfl, fun w _ => by go_simp⟩) ?_
                try simp only [List.getElem_toArray, List.getElem_cons_zero, List.getElem_cons_succ, Act.put, List.setIfInBounds_toArray, List.set_cons_zero, List.set_cons_succ]
                refine wpAnyL_take (i := 1) (v := .agg #[si, sd, sc]) rfl (by kernel_rfl) (by kernel_rfl) (by kernel_rfl) (by kernel_rfl) (by kernel_rfl) (fun _ _ _ h => h) (yieldsIf_load_mid (by rfl) _ _ rfl S 0 rfl [si, sd, sc] _ (fun W h => fun jj u hu => Kept.cellOf h (hrowS jj u hu) (by simp)) Tryz.underlying39 rfl hial) h0 ?_
                try simp only [List.getElem_toArray, List.getElem_cons_zero, List.getElem_cons_succ, Act.put, List.setIfInBounds_toArray, List.set_cons_zero, List.set_cons_succ]
                refine wpAnyL_free (i := 2) (v := .slice (some ⟨gn, on, none⟩) nn cn) rfl (by kernel_rfl) (by kernel_rfl) (by kernel_rfl) (fun _ _ _ h => h) (Or.inl ⟨by rfl, fun w _ => by go_simp⟩) ?_
                try simp only [List.getElem_toArray, List.getElem_cons_zero, List.getElem_cons_succ, Act.put, List.setIfInBounds_toArray, List.set_cons_zero, List.set_cons_succ]
                refine wpAnyL_free (i := 3) (v := .int .i64 k) rfl (by kernel_rfl) (by kernel_rfl) (by kernel_rfl) (fun _ _ _ h => h) (Or.inl ⟨by rfl, fun w _ => by go_simp⟩) ?_
                try simp only [List.getElem_toArray, List.getElem_cons_zero, List.getElem_cons_succ, Act.put, List.setIfInBounds_toArray, List.set_cons_zero, List.set_cons_succ]
                refine wpAnyL_free (i := 4) (v := .pointer (some ⟨gn, on + k * 32, none⟩)) rfl (by kernel_rfl) (by kernel_rfl) (by kernel_rfl) (fun _ _ _ h => h) (Or.inl ⟨by rfl, fun w _ => by go_simp⟩) ?_
                try simp only [List.getElem_toArray, List.getElem_cons_zero, List.getElem_cons_succ, Act.put, List.setIfInBounds_toArray, List.set_cons_zero, List.set_cons_succ]
                refine wpAnyL_take (i := 5) (v := .agg (bys q).toArray) rfl (by kernel_rfl) (by kernel_rfl) (by kernel_rfl) (by kernel_rfl) (by kernel_rfl) (fun _ _ _ h => h) (yieldsIf_load_mid (by rfl) _ _ rfl gn (on + k * 32) rfl (bys q) _ (fun W h => fun jj u hu => Kept.cellOf h (hrq jj u hu) (by simp)) Tryz.underlying25 rfl hql) h0 ?_
                try simp only [List.getElem_toArray, List.getElem_cons_zero, List.getElem_cons_succ, Act.put, List.setIfInBounds_toArray, List.set_cons_zero, List.set_cons_succ]
                refine wpAnyL_one (i := 6) (by kernel_rfl) rfl (fun K' hK => ?_)
                rw [if_pos (by rfl)]
                go_simp
                refine (hask v0 h0).mono ?_
                rintro e w9 ⟨rfl, hK9, va2, vl2, cd2, ci2, hW9, hor⟩
                refine hK.out _ _ (fun _ h => by cases h) ?_
                clear hK K'
                try simp only [List.getElem_toArray, List.getElem_cons_zero, List.getElem_cons_succ, Act.put, List.setIfInBounds_toArray, List.set_cons_zero, List.set_cons_succ]
                refine wpAnyL_free (i := 7) (v := .bool false) rfl (by kernel_rfl) (by kernel_rfl) (by kernel_rfl) (fun _ _ _ h => h) (Or.inl ⟨by rfl, fun w _ => by go_simp⟩) ?_
                try simp only [List.getElem_toArray, List.getElem_cons_zero, List.getElem_cons_succ, Act.put, List.setIfInBounds_toArray, List.set_cons_zero, List.set_cons_succ]
                refine wpAnyL_done (by kernel_rfl) ?_ _
                rcases hor with ⟨_, rfl, rfl⟩ | ⟨hx, _⟩
                rotate_left
                · cases hx
                have HNX : Hid (Wk9 w9 w1.heap.size g va2 (.slice a' n' c') vb vd vl2 (R2.ask f q).2 dp 0 z32 [(.slice (some ⟨gn, on, none⟩) nn cn, N)] ∧ Rok U (R2.ask f q).2 ∧ Kept [] w1 w9 ∧ Rw.asks1 f R0 N = Rw.asks1 f (R2.ask f q).2 (N.drop (k + 1))) := hide ⟨hW9, HO3.out, hK9, by rw [HQ.out.2, HAS.out, if_pos HB.out]⟩
                clear h0 hask hrq hrowS hK9 hW9 HWF HKF HQ HAS HB HO3
                go_wp2
                go_roundw
                case rel => exact ⟨va2, _, vl2, (R2.ask f q).2, k + 1, by omega, by go_num, HNX⟩
                case measure => simp [intOf]; omega
              | false =>
                go_upto_region 15 with (fail)
                refine wp_region_late (fun w' => Kept [] w8 w') (fun i => i == 6) (by kernel_rfl) ?_
                have h0 : Kept [] w8 w8.drew := (Kept.refl [] w8).drew
                generalize World.drew w8 = v0 at h0 ⊢
                refine wpAnyL_free (i := 0) (v := .pointer (some ⟨g, 0, none⟩)) rfl (by kernel_rfl) (by kernel_rfl) (by kernel_rfl) (fun _ _ _ h => h) (Or.inl ⟨by rfl, fun w _ => by go_simp⟩) ?_
                try simp only [List.getElem_toArray, List.getElem_cons_zero, List.getElem_cons_succ, Act.put, List.setIfInBounds_toArray, List.set_cons_zero, List.set_cons_succ]
                refine wpAnyL_take (i := 1) (v := .agg #[si, sd, sc]) rfl (by kernel_rfl) (by kernel_rfl) (by kernel_rfl) (by kernel_rfl) (by kernel_rfl) (fun _ _ _ h => h) (yieldsIf_load_mid (by rfl) _ _ rfl S 0 rfl [si, sd, sc] _ (fun W h => fun jj u hu => Kept.cellOf h (hrowS jj u hu) (by simp)) Tryz.underlying39 rfl hial) h0 ?_
                try simp only [List.getElem_toArray, List.getElem_cons_zero, List.getElem_cons_succ, Act.put, List.setIfInBounds_toArray, List.set_cons_zero, List.set_cons_succ]
                refine wpAnyL_free (i := 2) (v := .slice (some ⟨gn, on, none⟩) nn cn) rfl (by kernel_rfl) (by kernel_rfl) (by kernel_rfl) (fun _ _ _ h => h) (Or.inl ⟨by rfl, fun w _ => by go_simp⟩) ?_
                try simp only [List.getElem_toArray, List.getElem_cons_zero, List.getElem_cons_succ, Act.put, List.setIfInBounds_toArray, List.set_cons_zero, List.set_cons_succ]
                refine wpAnyL_free (i := 3) (v := .int .i64 k) rfl (by kernel_rfl) (by kernel_rfl) (by kernel_rfl) (fun _ _ _ h => h) (Or.inl ⟨by rfl, fun w _ => by go_simp⟩) ?_
                try simp only [List.getElem_toArray, List.getElem_cons_zero, List.getElem_cons_succ, Act.put, List.setIfInBounds_toArray, List.set_cons_zero, List.set_cons_succ]
                refine wpAnyL_free (i := 4) (v := .pointer (some ⟨gn, on + k * 32, none⟩)) rfl (by kernel_rfl) (by kernel_rfl) (by kernel_rfl) (fun _ _ _ h => h) (Or.inl ⟨by rfl, fun w _ => by go_simp⟩) ?_
                try simp only [List.getElem_toArray, List.getElem_cons_zero, List.getElem_cons_succ, Act.put, List.setIfInBounds_toArray, List.set_cons_zero, List.set_cons_succ]
                refine wpAnyL_take (i := 5) (v := .agg (bys q).toArray) rfl (by kernel_rfl) (by kernel_rfl) (by kernel_rfl) (by kernel_rfl) (by kernel_rfl) (fun _ _ _ h => h) (yieldsIf_load_mid (by rfl) _ _ rfl gn (on + k * 32) rfl (bys q) _ (fun W h => fun jj u hu => Kept.cellOf h (hrq jj u hu) (by simp)) Tryz.underlying25 rfl hql) h0 ?_
                try simp only [List.getElem_toArray, List.getElem_cons_zero, List.getElem_cons_succ, Act.put, List.setIfInBounds_toArray, List.set_cons_zero, List.set_cons_succ]
                refine wpAnyL_one (i := 6) (by kernel_rfl) rfl (fun K' hK => ?_)
                rw [if_pos (by rfl)]
                go_simp
                refine (hask v0 h0).mono ?_
                rintro e w9 ⟨rfl, hK9, va2, vl2, cd2, ci2, hW9, hor⟩
                refine hK.out _ _ (fun _ h => by cases h) ?_
                clear hK K'
                try simp only [List.getElem_toArray, List.getElem_cons_zero, List.getElem_cons_succ, Act.put, List.setIfInBounds_toArray, List.set_cons_zero, List.set_cons_succ]
                refine wpAnyL_free (i := 7) (v := .bool true) rfl (by kernel_rfl) (by kernel_rfl) (by kernel_rfl) (fun _ _ _ h => h) (Or.inl ⟨by rfl, fun w _ => by go_simp⟩) ?_
                try simp only [List.getElem_toArray, List.getElem_cons_zero, List.getElem_cons_succ, Act.put, List.setIfInBounds_toArray, List.set_cons_zero, List.set_cons_succ]
                refine wpAnyL_done (by kernel_rfl) ?_ _
                rcases hor with ⟨hx, _⟩ | ⟨_, hcd, hci⟩
                · cases hx
                rw [hcd, hci] at hW9
                clear hcd hci
                have HNX : Hid (Ro9 w9 w.heap.size g f cf (refW f (RL.map (·.root))) ∧ Kept [] w w9) := hide ⟨⟨va2, _, vb, vd, vl2, dp, cf q, q, by
                  have e1 : Rw.asks1 f R0 N = (some q, (R2.ask f q).2) := by rw [HQ.out.2, HAS.out, if_neg (by rw [HB.out]; simp)]
                  have e2 : refW f (RL.map (·.root)) = (some q, (R2.ask f q).2, N) := by
                    unfold refW
                    rw [HD.out.2]
                    simp only [Rw.rounds, e1]
                  rw [e2]
                  exact ⟨(hW9.base9 (B2 := w.heap.size) (by have := HB1.out; omega)).drop9, .inr ⟨q, rfl, rfl, rfl, ask_false HB.out⟩⟩⟩, HK0.out.trans hK9 (by simp)⟩
                clear h0 hask hrq hrowS hK9 hW9 HWF HKF HQ HAS HB HO3
                go_wp2
                go_ret
                exact ⟨g, rfl, HNX.out.1, HNX.out.2⟩
            · obtain rfl : k = nn := by omega
              have hlt1 : ¬ (k : Int) < (k : Int) := by omega
              have HC9 : Hid (Wk9 wr w1.heap.size g va1 vn1 vb vd vl1 R1 dp 0 z32 [(.slice none 0 0, []), (.slice na k cn, N)] ∧ Rok U R1 ∧ Kept [] w1 wr ∧ Rw.asks1 f R0 N = (none, R1)) := hide ⟨HP.out.1.with_ (v := .slice none 0 0) (L := []) ⟨World.ownsRow_nil _ _ _ _, by simp⟩ (apt_nil _) (fun p hp => by simpa using hp), HP.out.2.1, HP.out.2.2.1, by rw [HP.out.2.2.2, List.drop_of_length_le (by rw [HNN.out]; exact Nat.le_refl _)]; rfl⟩
              clear HP
              obtain ⟨wc, rfl⟩ : ∃ wo, wo = wr := ⟨_, rfl⟩
              obtain ⟨nn, rfl⟩ : ∃ r, r = k := ⟨_, rfl⟩
              obtain ⟨va, rfl⟩ : ∃ r, r = va1 := ⟨_, rfl⟩
              obtain ⟨vl, rfl⟩ : ∃ r, r = vl1 := ⟨_, rfl⟩
              obtain ⟨R1s, rfl⟩ : ∃ r, r = R1 := ⟨_, rfl⟩
              go_wp2
              go_loopw [9, 11] (fun x y wr => ∃ (vq vn1 vb1 : Value) (R1 : Rw) (NX : List (List UInt8)) (k : Nat), k ≤ nn ∧ y = .int .i64 k ∧ vq = x ∧ Hid (Wk9 wr w1.heap.size g va vn1 vb1 vd vl R1 dp 0 z32 [(vq, NX), (.slice na nn cn, N)] ∧ Rok U R1 ∧ (Up NX ∧ ∀ p ∈ NX, p ∈ U) ∧ Kept [] w1 wr ∧ Rw.opens f R1s [] N = Rw.opens f R1 NX (N.drop k))) (fun x y wr => nn - (intOf y).toNat)
              case atStart => exact ⟨_, _, _, R1s, [], 0, Nat.zero_le _, rfl, rfl, hide ⟨HC9.out.1, HC9.out.2.1, ⟨by simp [Up], by simp⟩, HC9.out.2.2.1, by rw [List.drop_zero]⟩⟩
              case round =>
                obtain ⟨vq, vn1, vb1, R1, NX, k, hk, rfl, rfl, HP⟩ := hrel
                by_cases hlt : k < nn
                · as_aux_lemma =>
                  have hlt1 : (k : Int) < (nn : Int) := by omega
                  have hkl : k < N.length := by rw [HNN.out]; exact hlt
                  have hoN : OwnI wr w1.heap.size (.slice na nn cn) N := (HP.out.1.x (.slice na nn cn, N) (by simp)).1
                  obtain ⟨gn, on, hao, hrq⟩ := hoN.ids.1.1 k hkl
                  have hq : (N.getD k []).length = 32 := hoN.2 _ (gmem9 hkl)
                  have hqin : N.getD k [] ∈ N := gmem9 hkl
                  have hdr : N.drop k = N.getD k [] :: N.drop (k + 1) := by rw [List.drop_eq_getElem_cons hkl, List.getD_eq_getElem?_getD, List.getElem?_eq_getElem hkl]; rfl
                  obtain ⟨q, hqe⟩ : ∃ q, N.getD k [] = q := ⟨_, rfl⟩
                  rw [hqe] at hrq hq hqin hdr
                  have hql := idl q hq
                  subst hao
                  have hqU : q ∈ U := HNU.out.2 q hqin
                  have HRQ := hide hrq
                  have HDR := hide hdr
                  have hopen := fun W (hW : Kept [] wr W) => open9_ok (U := U) (X := [(.slice (some ⟨gn, on, none⟩) nn cn, N)]) (HP.out.1.kept hW) (HP.out.2.2.2.1.trans hW (by simp)) (HS.out.1.kept HK0.out) (HS.out.2.kept HK0.out) q hq HP.out.2.1.b.1 (HP.out.2.1.lenB HU.out.2.2) hn HU.out.2.2 HP.out.2.1.n.1 HP.out.2.2.1.1 HP.out.2.1.n.2 HP.out.2.2.1.2 (fun xs E h1 h2 => HU.out.2.1 q xs E h1 h2) (fun xs E h1 h2 => Nat.le_trans (parse_lenK h2) (by decide))
                  have hrowS : wr.rangeAt S 0 [si, sd, sc] := row_rangeK ((HP.out.2.2.2.1.block S HSR.out.1 (by simp)).trans HSR.out.2)
                  have HOP := hide (HP.out.2.1.openE hqU HP.out.2.2.1 (fun xs E h1 h2 => HU.out.2.1 q xs E h1 h2))
                  clear hdr hqe hqin hoN hkl
                  go_upto_region 20 with (fail)
                  refine wp_region_late (fun w' => Kept [] wr w') (fun i => i == 7 || i == 8) (by kernel_rfl) ?_
                  have h0 : Kept [] wr wr.drew := (Kept.refl [] wr).drew
                  generalize World.drew wr = v0 at h0 ⊢
                  refine wpAnyL_free (i := 0) (v := .pointer (some ⟨g, 0, none⟩)) rfl (by kernel_rfl) (by kernel_rfl) (by kernel_rfl) (fun _ _ _ h => h) (Or.inl ⟨by rfl, fun w _ => by go_simp⟩) ?_
                  try simp only [List.getElem_toArray, List.getElem_cons_zero, List.getElem_cons_succ, Act.put, List.setIfInBounds_toArray, List.set_cons_zero, List.set_cons_succ]
                  refine wpAnyL_take (i := 1) (v := .agg #[si, sd, sc]) rfl (by kernel_rfl) (by kernel_rfl) (by kernel_rfl) (by kernel_rfl) (by kernel_rfl) (fun _ _ _ h => h) (yieldsIf_load_mid (by rfl) _ _ rfl S 0 rfl [si, sd, sc] _ (fun W h => fun jj u hu => Kept.cellOf h (hrowS jj u hu) (by simp)) Tryz.underlying39 rfl hial) h0 ?_
                  try simp only [List.getElem_toArray, List.getElem_cons_zero, List.getElem_cons_succ, Act.put, List.setIfInBounds_toArray, List.set_cons_zero, List.set_cons_succ]
                  refine wpAnyL_free (i := 2) (v := .slice (some ⟨gn, on, none⟩) nn cn) rfl (by kernel_rfl) (by kernel_rfl) (by kernel_rfl) (fun _ _ _ h => h) (Or.inl ⟨by rfl, fun w _ => by go_simp⟩) ?_
                  try simp only [List.getElem_toArray, List.getElem_cons_zero, List.getElem_cons_succ, Act.put, List.setIfInBounds_toArray, List.set_cons_zero, List.set_cons_succ]
                  refine wpAnyL_free (i := 3) (v := .int .i64 k) rfl (by kernel_rfl) (by kernel_rfl) (by kernel_rfl) (fun _ _ _ h => h) (Or.inl ⟨by rfl, fun w _ => by go_simp⟩) ?_
                  try simp only [List.getElem_toArray, List.getElem_cons_zero, List.getElem_cons_succ, Act.put, List.setIfInBounds_toArray, List.set_cons_zero, List.set_cons_succ]
                  refine wpAnyL_free (i := 4) (v := .pointer (some ⟨gn, on + k * 32, none⟩)) rfl (by kernel_rfl) (by kernel_rfl) (by kernel_rfl) (fun _ _ _ h => h) (Or.inl ⟨by rfl, fun w _ => by go_simp⟩) ?_
                  try simp only [List.getElem_toArray, List.getElem_cons_zero, List.getElem_cons_succ, Act.put, List.setIfInBounds_toArray, List.set_cons_zero, List.set_cons_succ]
                  refine wpAnyL_take (i := 5) (v := .agg (bys q).toArray) rfl (by kernel_rfl) (by kernel_rfl) (by kernel_rfl) (by kernel_rfl) (by kernel_rfl) (fun _ _ _ h => h) (yieldsIf_load_mid (by rfl) _ _ rfl gn (on + k * 32) rfl (bys q) _ (fun W h => fun jj u hu => Kept.cellOf h (hrq jj u hu) (by simp)) Tryz.underlying25 rfl hql) h0 ?_
                  try simp only [List.getElem_toArray, List.getElem_cons_zero, List.getElem_cons_succ, Act.put, List.setIfInBounds_toArray, List.set_cons_zero, List.set_cons_succ]
                  refine wpAnyL_free (i := 6) (v := vq) rfl (by kernel_rfl) (by kernel_rfl) (by kernel_rfl) (fun _ _ _ h => h) (Or.inl ⟨by rfl, fun w _ => by go_simp⟩) ?_
                  try simp only [List.getElem_toArray, List.getElem_cons_zero, List.getElem_cons_succ, Act.put, List.setIfInBounds_toArray, List.set_cons_zero, List.set_cons_succ]
                  refine wpAnyL_one (i := 7) (by kernel_rfl) rfl (fun K' hK => ?_)
                  rw [if_pos (by rfl)]
                  go_simp
                  refine (hopen v0 h0).mono ?_
                  rintro e w9 ⟨vq2, vn2, vb2, rfl, hK9, hW9⟩
                  refine hK.out _ _ (fun _ h => by cases h) ?_
                  clear hK K'
                  try simp only [List.getElem_toArray, List.getElem_cons_zero, List.getElem_cons_succ, Act.put, List.setIfInBounds_toArray, List.set_cons_zero, List.set_cons_succ]
                  refine wpAnyL_free (i := 8) (v := vq2) rfl (by kernel_rfl) (by kernel_rfl) (by kernel_rfl) (fun _ _ _ h => h) (Or.inl ⟨by rfl, fun w _ => by go_simp⟩) ?_
                  try simp only [List.getElem_toArray, List.getElem_cons_zero, List.getElem_cons_succ, Act.put, List.setIfInBounds_toArray, List.set_cons_zero, List.set_cons_succ]
                  refine wpAnyL_done (by kernel_rfl) ?_ _
                  have HNX : Hid (Wk9 w9 w1.heap.size g va vn2 vb2 vd vl (R1.openE q NX (f q)).1 dp 0 z32 [(vq2, (R1.openE q NX (f q)).2), (.slice (some ⟨gn, on, none⟩) nn cn, N)] ∧ Rok U (R1.openE q NX (f q)).1 ∧ (Up (R1.openE q NX (f q)).2 ∧ ∀ p ∈ (R1.openE q NX (f q)).2, p ∈ U) ∧ Kept [] w1 w9 ∧ Rw.opens f R1s [] N = Rw.opens f (R1.openE q NX (f q)).1 (R1.openE q NX (f q)).2 (N.drop (k + 1))) := hide ⟨hW9, HOP.out.1, HOP.out.2, hK9, by rw [HP.out.2.2.2.2, HDR.out]; rfl⟩
                  clear h0 hopen hrq hrowS hK9 hW9 HP HOP HDR HRQ
                  go_wp2
                  go_roundw
                  case rel => exact ⟨vq2, vn2, vb2, _, _, k + 1, by omega, by go_num, rfl, HNX⟩
                  case measure => simp [intOf]; omega
                · obtain rfl : k = nn := by omega
                  have hlt1 : ¬ (k : Int) < (k : Int) := by omega
                  have HE9 : Hid (Wk9 wr w1.heap.size g va vn1 vb1 (.slice none 0 0) vl R1 [] 0 z32 [(vq, NX)] ∧ Rok U R1 ∧ (Up NX ∧ ∀ p ∈ NX, p ∈ U) ∧ Kept [] w1 wr ∧ Rw.rounds f 6 ⟨[], [], [], []⟩ (canon (RL.map (·.root))) = Rw.rounds f (7 - (d + 1)) R1 NX) := hide (by
                    have h := HP.out
                    rw [HVD.out.1, HVD.out.2] at h
                    have e1 : Rw.opens f R1s [] N = (R1, NX) := by rw [h.2.2.2.2, List.drop_of_length_le (by rw [HNN.out]; exact Nat.le_refl _)]; rfl
                    refine ⟨h.1.with_ ((h.1.x (vq, NX) (by simp)).1) ((h.1.x (vq, NX) (by simp)).2) (fun p hp => .inl (by simpa using hp)), h.2.1, h.2.2.1, h.2.2.2.1, ?_⟩
                    have hm := HD.out.1
                    rw [show 7 - (d + 1) = m by omega, HD.out.2]
                    simp only [Rw.rounds, HC9.out.2.2.2, e1])
                  clear HP HC9
                  go_wp2
                  go_roundw
                  case rel => exact ⟨vq, va, vn1, vb1, vl, R1, NX, d + 1, by omega, by omega, by go_num, rfl, HE9⟩
                  case measure => simp [intOf]; omega
        · have hd8 : d = 7 := by omega
          subst hd8
          have hd6 : ¬ ((7 : Nat) : Int) ≤ 6 := by omega
          have HRW0 : Hid (refW f (RL.map (·.root)) = ((Rw.asks f R0 R0.need).1, (Rw.asks f R0 R0.need).2, N)) := hide (by
            unfold refW
            rw [HP.out.2.2.2.2]
            rfl)
          have HS0 := hide HP.out
          clear HP
          have cD := HS0.out.1.cdd
          have fD := HS0.out.1.fz 3
          go_upto_region 23 with (fail)
          have hx := HS0.out.1.x (.slice na nn cn, N) (by simp)
          have hset := HS0.out.1.setD hx.1 hx.2
          have HKD : Hid (Kept [] w1 (wr.setCell ⟨g, 3, none⟩ (.slice na nn cn))) := hide (HS0.out.2.2.2.1.trans ((Kept.refl [g] wr).setCell (fun _ => by simp) _) (fun j hj hlt => by have h3 := HS0.out.1.gB; have : j = g := (by simpa using hj); omega))
          have HWD := hide hset.drop9
          clear cD fD hset hx
          generalize wr.setCell ⟨g, 3, none⟩ (.slice na nn cn) = w5 at HKD HWD ⊢
          obtain ⟨vd, hvd⟩ : ∃ v : Value, v = .slice na nn cn := ⟨_, rfl⟩
          rw [← hvd] at HWD
          obtain ⟨dp, rfl⟩ : ∃ v, v = N := ⟨_, rfl⟩
          obtain ⟨Rz, rfl⟩ : ∃ v, v = R0 := ⟨_, rfl⟩
          have HOZ := hide HS0.out.2.1
          clear HS0 hvd HNN HNU hnnm
          obtain ⟨na2, cn2, en, _⟩ := own_shape HWD.out.n.1.1
          obtain ⟨N, hN⟩ : ∃ N, Rz.need = N := ⟨_, rfl⟩
          have HRW : Hid (refW f (RL.map (·.root)) = ((Rw.asks f Rz N).1, (Rw.asks f Rz N).2, dp)) := hide (by rw [HRW0.out, hN])
          obtain ⟨nn2, hnn⟩ : ∃ n, N.length = n := ⟨_, rfl⟩
          have hen : vn = .slice na2 nn2 cn2 := by rw [← hnn, ← hN]; exact en
          have HNN := hide hnn
          have HNU : Hid (Up N ∧ ∀ q ∈ N, q ∈ U) := hide (by rw [← hN]; exact HOZ.out.n)
          have HNE := hide hN
          clear en hnn HRW0 hN
          subst hen
          have hnnm : nn2 ≤ 4611686018427387904 := by have h := nodup_le (up_nodupT HNU.out.1) HNU.out.2; have h2 := HU.out.2.2; have h3 := HNN.out; omega
          obtain ⟨na, rfl⟩ : ∃ r, r = na2 := ⟨_, rfl⟩
          obtain ⟨nn, rfl⟩ : ∃ r, r = nn2 := ⟨_, rfl⟩
          obtain ⟨cn, rfl⟩ : ∃ r, r = cn2 := ⟨_, rfl⟩
          go_wp2
          go_loopw [12] (fun y wr => ∃ (va1 vl1 : Value) (R1 : Rw) (k : Nat), k ≤ nn ∧ y = .int .i64 k ∧ Hid (Wk9 wr w1.heap.size g va1 (.slice na nn cn) vb vd vl1 R1 dp 0 z32 [] ∧ Rok U R1 ∧ R1.need = N ∧ Kept [] w1 wr ∧ Rw.asks f Rz N = Rw.asks f R1 (N.drop k))) (fun y wr => nn - (intOf y).toNat)
          case atStart => exact ⟨_, _, Rz, 0, Nat.zero_le _, rfl, hide ⟨HWD.out, HOZ.out, HNE.out, HKD.out, by rw [List.drop_zero]⟩⟩
          case round =>
            clear HWD HKD HOZ
            obtain ⟨va1, vl1, R1, k, hk, rfl, HP⟩ := hrel
            have cN := HP.out.1.cn
            by_cases hlt : k < nn
            · as_aux_lemma =>
              have hlt1 : (k : Int) < (nn : Int) := by omega
              have hkl : k < N.length := by rw [HNN.out]; exact hlt
              have hoN : OwnI wr w1.heap.size (.slice na nn cn) N := (by have h := HP.out.1.n.1; rw [HP.out.2.2.1] at h; exact h)
              obtain ⟨gn, on, hao, hrq⟩ := hoN.ids.1.1 k hkl
              have hq : (N.getD k []).length = 32 := hoN.2 _ (gmem9 hkl)
              have hqin : N.getD k [] ∈ N := gmem9 hkl
              have hdr : N.drop k = N.getD k [] :: N.drop (k + 1) := by rw [List.drop_eq_getElem_cons hkl, List.getD_eq_getElem?_getD, List.getElem?_eq_getElem hkl]; rfl
              obtain ⟨q, hqe⟩ : ∃ q, N.getD k [] = q := ⟨_, rfl⟩
              rw [hqe] at hrq hq hqin hdr
              have hql := idl q hq
              subst hao
              have hqU : q ∈ U := HNU.out.2 q hqin
              have HRQ := hide hrq
              have HDR := hide hdr
              have hask := fun W (hW : Kept [] wr W) => ask9_ok (HP.out.1.kept hW) (HP.out.2.2.2.1.trans hW (by simp)) (HS.out.1.kept HK0.out) (HS.out.2.kept HK0.out) q hq HP.out.2.1.l.1 (HP.out.2.1.lenA HU.out.2.2) (HP.out.2.1.lenL HU.out.2.2) hn
              have hrowS : wr.rangeAt S 0 [si, sd, sc] := row_rangeK ((HP.out.2.2.2.1.block S HSR.out.1 (by simp)).trans HSR.out.2)
              have HO3 := hide (HP.out.2.1.ask (f := f) hqU)
              have HAS : Hid (Rw.asks f R1 (N.drop k) = if (R1.ask f q).1 = true then Rw.asks f (R1.ask f q).2 (N.drop (k + 1)) else (some q, (R1.ask f q).2)) := hide (by rw [HDR.out]; rfl)
              clear hdr hqe hqin hoN hkl HDR
              obtain ⟨b, hb⟩ : ∃ b, (R1.ask f q).1 = b := ⟨_, rfl⟩
              have HB := hide hb
              simp only [hb] at hask
              clear hb
              cases b with
              | true =>
                go_upto_region 26 with (fail)
                refine wp_region_late (fun w' => Kept [] wr w') (fun i => i == 9) (by kernel_rfl) ?_
                have h0 : Kept [] wr wr.drew := (Kept.refl [] wr).drew
                generalize World.drew wr = v0 at h0 ⊢
                refine wpAnyL_free (i := 0) (v := .pointer (some ⟨g, 0, none⟩)) rfl (by kernel_rfl) (by kernel_rfl) (by kernel_rfl) (fun _ _ _ h => h) (Or.inl ⟨by rfl, fun w _ => by go_simp⟩) ?_
                try simp only [List.getElem_toArray, List.getElem_cons_zero, List.getElem_cons_succ, Act.put, List.setIfInBounds_toArray, List.set_cons_zero, List.set_cons_succ]
                refine wpAnyL_take (i := 1) (v := .agg #[si, sd, sc]) rfl (by kernel_rfl) (by kernel_rfl) (by kernel_rfl) (by kernel_rfl) (by kernel_rfl) (fun _ _ _ h => h) (yieldsIf_load_mid (by rfl) _ _ rfl S 0 rfl [si, sd, sc] _ (fun W h => fun jj u hu => Kept.cellOf h (hrowS jj u hu) (by simp)) Tryz.underlying39 rfl hial) h0 ?_
                try simp only [List.getElem_toArray, List.getElem_cons_zero, List.getElem_cons_succ, Act.put, List.setIfInBounds_toArray, List.set_cons_zero, List.set_cons_succ]
                refine wpAnyL_free (i := 2) (v := .pointer (some ⟨g, 0, none⟩)) rfl (by kernel_rfl) (by kernel_rfl) (by kernel_rfl) (fun _ _ _ h => h) (Or.inl ⟨by rfl, fun w _ => by go_simp⟩) ?_
                try simp only [List.getElem_toArray, List.getElem_cons_zero, List.getElem_cons_succ, Act.put, List.setIfInBounds_toArray, List.set_cons_zero, List.set_cons_succ]
                refine wpAnyL_free (i := 3) (v := .pointer (some ⟨g, 0, none⟩)) rfl (by kernel_rfl) (by kernel_rfl) (by kernel_rfl) (fun _ _ _ h => h) (Or.inl ⟨by rfl, fun w _ => by go_simp⟩) ?_
                try simp only [List.getElem_toArray, List.getElem_cons_zero, List.getElem_cons_succ, Act.put, List.setIfInBounds_toArray, List.set_cons_zero, List.set_cons_succ]
                refine wpAnyL_free (i := 4) (v := .pointer (some ⟨g, 1, none⟩)) rfl (by kernel_rfl) (by kernel_rfl) (by kernel_rfl) (fun _ _ _ h => h) (Or.inl ⟨by rfl, fun w _ => by go_simp⟩) ?_
                try simp only [List.getElem_toArray, List.getElem_cons_zero, List.getElem_cons_succ, Act.put, List.setIfInBounds_toArray, List.set_cons_zero, List.set_cons_succ]
                refine wpAnyL_take (i := 5) (v := .slice (some ⟨gn, on, none⟩) nn cn) rfl (by kernel_rfl) (by kernel_rfl) (by kernel_rfl) (by kernel_rfl) (by kernel_rfl) (fun _ _ _ h => h) (Or.inl ⟨by rfl, fun w hSw => by have c := Kept.cellOf hSw cN (by simp); go_simp⟩) h0 ?_
                try simp only [List.getElem_toArray, List.getElem_cons_zero, List.getElem_cons_succ, Act.put, List.setIfInBounds_toArray, List.set_cons_zero, List.set_cons_succ]
                refine wpAnyL_free (i := 6) (v := .int .i64 k) rfl (by kernel_rfl) (by kernel_rfl) (by kernel_rfl) (fun _ _ _ h => h) (Or.inl ⟨by rfl, fun w _ => by go_simp⟩) ?_
                try simp only [List.getElem_toArray, List.getElem_cons_zero, List.getElem_cons_succ, Act.put, List.setIfInBounds_toArray, List.set_cons_zero, List.set_cons_succ]
                refine wpAnyL_free (i := 7) (v := .pointer (some ⟨gn, on + k * 32, none⟩)) rfl (by kernel_rfl) (by kernel_rfl) (by kernel_rfl) (fun _ _ _ h => h) (Or.inl ⟨by rfl, fun w _ => by go_simp⟩) ?_
                try simp only [List.getElem_toArray, List.getElem_cons_zero, List.getElem_cons_succ, Act.put, List.setIfInBounds_toArray, List.set_cons_zero, List.set_cons_succ]
                refine wpAnyL_take (i := 8) (v := .agg (bys q).toArray) rfl (by kernel_rfl) (by kernel_rfl) (by kernel_rfl) (by kernel_rfl) (by kernel_rfl) (fun _ _ _ h => h) (yieldsIf_load_mid (by rfl) _ _ rfl gn (on + k * 32) rfl (bys q) _ (fun W h => fun jj u hu => Kept.cellOf h (hrq jj u hu) (by simp)) Tryz.underlying25 rfl hql) h0 ?_
                try simp only [List.getElem_toArray, List.getElem_cons_zero, List.getElem_cons_succ, Act.put, List.setIfInBounds_toArray, List.set_cons_zero, List.set_cons_succ]
                refine wpAnyL_one (i := 9) (by kernel_rfl) rfl (fun K' hK => ?_)
                rw [if_pos (by rfl)]
                go_simp
                refine (hask v0 h0).mono ?_
                rintro e w9 ⟨rfl, hK9, va2, vl2, cd2, ci2, hW9, hor⟩
                refine hK.out _ _ (fun _ h => by cases h) ?_
                clear hK K'
                try simp only [List.getElem_toArray, List.getElem_cons_zero, List.getElem_cons_succ, Act.put, List.setIfInBounds_toArray, List.set_cons_zero, List.set_cons_succ]
                refine wpAnyL_free (i := 10) (v := .bool false) rfl (by kernel_rfl) (by kernel_rfl) (by kernel_rfl) (fun _ _ _ h => h) (Or.inl ⟨by rfl, fun w _ => by go_simp⟩) ?_
                try simp only [List.getElem_toArray, List.getElem_cons_zero, List.getElem_cons_succ, Act.put, List.setIfInBounds_toArray, List.set_cons_zero, List.set_cons_succ]
                refine wpAnyL_done (by kernel_rfl) ?_ _
                rcases hor with ⟨_, rfl, rfl⟩ | ⟨hx, _⟩
                rotate_left
                · cases hx
                have HNX : Hid (Wk9 w9 w1.heap.size g va2 (.slice (some ⟨gn, on, none⟩) nn cn) vb vd vl2 (R1.ask f q).2 dp 0 z32 [] ∧ Rok U (R1.ask f q).2 ∧ (R1.ask f q).2.need = N ∧ Kept [] w1 w9 ∧ Rw.asks f Rz N = Rw.asks f (R1.ask f q).2 (N.drop (k + 1))) := hide ⟨hW9, HO3.out, by rw [ask_need]; exact HP.out.2.2.1, hK9, by rw [HP.out.2.2.2.2, HAS.out, if_pos HB.out]⟩
                clear h0 hask hrq hrowS hK9 hW9 HP HAS HB HO3 cN
                go_wp2
                go_roundw
                case rel => exact ⟨va2, vl2, (R1.ask f q).2, k + 1, by omega, by go_num, HNX⟩
                case measure => simp [intOf]; omega
              | false =>
                go_upto_region 26 with (fail)
                refine wp_region_late (fun w' => Kept [] wr w') (fun i => i == 9) (by kernel_rfl) ?_
                have h0 : Kept [] wr wr.drew := (Kept.refl [] wr).drew
                generalize World.drew wr = v0 at h0 ⊢
                refine wpAnyL_free (i := 0) (v := .pointer (some ⟨g, 0, none⟩)) rfl (by kernel_rfl) (by kernel_rfl) (by kernel_rfl) (fun _ _ _ h => h) (Or.inl ⟨by rfl, fun w _ => by go_simp⟩) ?_
                try simp only [List.getElem_toArray, List.getElem_cons_zero, List.getElem_cons_succ, Act.put, List.setIfInBounds_toArray, List.set_cons_zero, List.set_cons_succ]
                refine wpAnyL_take (i := 1) (v := .agg #[si, sd, sc]) rfl (by kernel_rfl) (by kernel_rfl) (by kernel_rfl) (by kernel_rfl) (by kernel_rfl) (fun _ _ _ h => h) (yieldsIf_load_mid (by rfl) _ _ rfl S 0 rfl [si, sd, sc] _ (fun W h => fun jj u hu => Kept.cellOf h (hrowS jj u hu) (by simp)) Tryz.underlying39 rfl hial) h0 ?_
                try simp only [List.getElem_toArray, List.getElem_cons_zero, List.getElem_cons_succ, Act.put, List.setIfInBounds_toArray, List.set_cons_zero, List.set_cons_succ]
                refine wpAnyL_free (i := 2) (v := .pointer (some ⟨g, 0, none⟩)) rfl (by kernel_rfl) (by kernel_rfl) (by kernel_rfl) (fun _ _ _ h => h) (Or.inl ⟨by rfl, fun w _ => by go_simp⟩) ?_
                try simp only [List.getElem_toArray, List.getElem_cons_zero, List.getElem_cons_succ, Act.put, List.setIfInBounds_toArray, List.set_cons_zero, List.set_cons_succ]
                refine wpAnyL_free (i := 3) (v := .pointer (some ⟨g, 0, none⟩)) rfl (by kernel_rfl) (by kernel_rfl) (by kernel_rfl) (fun _ _ _ h => h) (Or.inl ⟨by rfl, fun w _ => by go_simp⟩) ?_
                try simp only [List.getElem_toArray, List.getElem_cons_zero, List.getElem_cons_succ, Act.put, List.setIfInBounds_toArray, List.set_cons_zero, List.set_cons_succ]
                refine wpAnyL_free (i := 4) (v := .pointer (some ⟨g, 1, none⟩)) rfl (by kernel_rfl) (by kernel_rfl) (by kernel_rfl) (fun _ _ _ h => h) (Or.inl ⟨by rfl, fun w _ => by go_simp⟩) ?_
                try simp only [List.getElem_toArray, List.getElem_cons_zero, List.getElem_cons_succ, Act.put, List.setIfInBounds_toArray, List.set_cons_zero, List.set_cons_succ]
                refine wpAnyL_take (i := 5) (v := .slice (some ⟨gn, on, none⟩) nn cn) rfl (by kernel_rfl) (by kernel_rfl) (by kernel_rfl) (by kernel_rfl) (by kernel_rfl) (fun _ _ _ h => h) (Or.inl ⟨by rfl, fun w hSw => by have c := Kept.cellOf hSw cN (by simp); go_simp⟩) h0 ?_
                try simp only [List.getElem_toArray, List.getElem_cons_zero, List.getElem_cons_succ, Act.put, List.setIfInBounds_toArray, List.set_cons_zero, List.set_cons_succ]
                refine wpAnyL_free (i := 6) (v := .int .i64 k) rfl (by kernel_rfl) (by kernel_rfl) (by kernel_rfl) (fun _ _ _ h => h) (Or.inl ⟨by rfl, fun w _ => by go_simp⟩) ?_
                try simp only [List.getElem_toArray, List.getElem_cons_zero, List.getElem_cons_succ, Act.put, List.setIfInBounds_toArray, List.set_cons_zero, List.set_cons_succ]
                refine wpAnyL_free (i := 7) (v := .pointer (some ⟨gn, on + k * 32, none⟩)) rfl (by kernel_rfl) (by kernel_rfl) (by kernel_rfl) (fun _ _ _ h => h) (Or.inl ⟨by rfl, fun w _ => by go_simp⟩) ?_
                try simp only [List.getElem_toArray, List.getElem_cons_zero, List.getElem_cons_succ, Act.put, List.setIfInBounds_toArray, List.set_cons_zero, List.set_cons_succ]
                refine wpAnyL_take (i := 8) (v := .agg (bys q).toArray) rfl (by kernel_rfl) (by kernel_rfl) (by kernel_rfl) (by kernel_rfl) (by kernel_rfl) (fun _ _ _ h => h) (yieldsIf_load_mid (by rfl) _ _ rfl gn (on + k * 32) rfl (bys q) _ (fun W h => fun jj u hu => Kept.cellOf h (hrq jj u hu) (by simp)) Tryz.underlying25 rfl hql) h0 ?_
                try simp only [List.getElem_toArray, List.getElem_cons_zero, List.getElem_cons_succ, Act.put, List.setIfInBounds_toArray, List.set_cons_zero, List.set_cons_succ]
                refine wpAnyL_one (i := 9) (by kernel_rfl) rfl (fun K' hK => ?_)
                rw [if_pos (by rfl)]
                go_simp
                refine (hask v0 h0).mono ?_
                rintro e w9 ⟨rfl, hK9, va2, vl2, cd2, ci2, hW9, hor⟩
                refine hK.out _ _ (fun _ h => by cases h) ?_
                clear hK K'
                try simp only [List.getElem_toArray, List.getElem_cons_zero, List.getElem_cons_succ, Act.put, List.setIfInBounds_toArray, List.set_cons_zero, List.set_cons_succ]
                refine wpAnyL_free (i := 10) (v := .bool true) rfl (by kernel_rfl) (by kernel_rfl) (by kernel_rfl) (fun _ _ _ h => h) (Or.inl ⟨by rfl, fun w _ => by go_simp⟩) ?_
                try simp only [List.getElem_toArray, List.getElem_cons_zero, List.getElem_cons_succ, Act.put, List.setIfInBounds_toArray, List.set_cons_zero, List.set_cons_succ]
                refine wpAnyL_done (by kernel_rfl) ?_ _
                rcases hor with ⟨hx, _⟩ | ⟨_, hcd, hci⟩
                · cases hx
                rw [hcd, hci] at hW9
                clear hcd hci
                have HNX : Hid (Ro9 w9 w.heap.size g f cf (refW f (RL.map (·.root))) ∧ Kept [] w w9) := hide ⟨⟨va2, _, vb, vd, vl2, dp, cf q, q, by
                  have e1 : Rw.asks f Rz N = (some q, (R1.ask f q).2) := by rw [HP.out.2.2.2.2, HAS.out, if_neg (by rw [HB.out]; simp)]
                  have e2 : refW f (RL.map (·.root)) = (some q, (R1.ask f q).2, dp) := by
                    rw [HRW.out, e1]
                  rw [e2]
                  exact ⟨hW9.base9 (B2 := w.heap.size) (by have := HB1.out; omega), .inr ⟨q, rfl, rfl, rfl, ask_false HB.out⟩⟩⟩, HK0.out.trans hK9 (by simp)⟩
                clear h0 hask hrq hrowS hK9 hW9 HP HAS HB HO3 cN
                go_wp2
                go_ret
                exact ⟨g, rfl, HNX.out.1, HNX.out.2⟩
            · obtain rfl : k = nn := by omega
              have hlt1 : ¬ (k : Int) < (k : Int) := by omega
              have HNX : Hid (Ro9 wr w.heap.size g f cf (refW f (RL.map (·.root))) ∧ Kept [] w wr) := hide ⟨⟨va1, _, vb, vd, vl1, dp, 0, z32, by
                  have e1 : Rw.asks f Rz N = (none, R1) := by rw [HP.out.2.2.2.2, List.drop_of_length_le (by rw [HNN.out]; exact Nat.le_refl _)]; rfl
                  have e2 : refW f (RL.map (·.root)) = (none, R1, dp) := by
                    rw [HRW.out, e1]
                  rw [e2]
                  exact ⟨HP.out.1.base9 (B2 := w.heap.size) (by have := HB1.out; omega), .inl ⟨rfl, rfl, rfl, rfl⟩⟩⟩, HK0.out.trans HP.out.2.2.2.1 (by simp)⟩
              clear HP
              go_wp2
              go_ret
              exact ⟨g, rfl, HNX.out.1, HNX.out.2⟩
end Go.Proofs.YtngaimahhgmciaaGreatDoor
