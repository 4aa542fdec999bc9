import Derived.Test.YtngaimahhgmciaaGreatDoorQsbs
namespace Go.Proofs.YtngaimahhgmciaaGreatDoor
section
open Go.RowKit Go.Lib Go.Sort
set_option linter.unusedVariables false
set_option linter.unusedSimpArgs false
def itF (L : List It9) (i : List UInt8) : An :=
 if i ∈ ids9 L then (if (fst9 L i).code = 0 then .data (fst9 L i).bs else if (fst9 L i).code = 93 ∨ (fst9 L i).code = 94 then .lack else .fail) else .lack
def GS (w0 : World) (P : Nat) (io : Option Addr) (n cap : Nat) (asked : List (List UInt8)) (o : Nat → Prop) (w : World) : Prop :=
 ∃ va ve, SoAt w0 w P io n cap va ve asked ∧ o = fun b => b = P ∨ va.ownBlock = some b ∨ (4 ≤ b ∧ b < w0.heap.size)
def ErS (P : Nat) (L : List It9) (i : List UInt8) (w : World) (ev : Value) : Prop := ErrA w L i ev ∧ w.cell? ⟨P, 2, none⟩ = some ev
theorem own_in9 {w : World} {b1 : Nat} {e : TypeId} {s1 : Nat} {v : Value} {n : Nat} {xs : List Value} (h : w.ownsRow b1 e s1 v n xs) (g : Nat) (hg : v.ownBlock = some g) : g < w.heap.size := by
 rcases h.2 with ⟨rfl, _⟩ | ⟨g2, c2, cur, rfl, _, hb, _⟩
 ·simp [Value.ownBlock] at hg
 ·simp only [Value.ownBlock, Option.some.injEq] at hg
  subst hg
  exact (Array.getElem?_eq_some_iff.1 hb).1
section
variable {w0 : World} {P : Nat} {io : Option Addr} {n cap : Nat} {L : List It9}
theorem GS.lim {asked : List (List UInt8)} {o : Nat → Prop} {w : World} (h : GS w0 P io n cap asked o w) : ∀ b, o b → b < w.heap.size := by
 obtain ⟨va, ve, hs, rfl⟩ := h
 rintro b (rfl | hb | hb)
 ·exact hs.lt
 ·exact own_in9 hs.a.1 b hb
 ·have := hs.sz; omega
theorem GS.keep {asked : List (List UInt8)} {o : Nat → Prop} {w w' : World} (h : GS w0 P io n cap asked o w) (hk : Kp (fun b => ¬ o b ∧ 4 ≤ b) w w') : GS w0 P io n cap asked o w' := by
 have hl := h.lim
 obtain ⟨va, ve, hs, rfl⟩ := h
 refine ⟨va, ve, ⟨?_, hs.a.kp9 hk (fun g hg hn => hn.1 (.inr (.inl hg))), fun b hb => ?_, hs.far⟩, rfl⟩
 ·rw [hk.block P hs.lt (fun hn => hn.1 (.inl rfl))]
  exact hs.row
 ·rw [hk.block b (Nat.lt_of_lt_of_le hb hs.sz) (fun hn => hn.1 (.inr (.inr ⟨hn.2, hb⟩)))]
  exact hs.st b hb
theorem vl9_of {w : World} {N : Nat} {v : Value} {xs : List UInt8} (h : OwnB w N v xs) (hl : xs.length ≤ 140737488355328) : Vl9 w v xs := by
 obtain ⟨a, c, rfl, _⟩ := own_shape h
 exact vl9_own h hl
theorem sources9 (htop : 4 ≤ w0.heap.size) (hits : ItsAt w0 io L) (hlen : L.length = n) (hn : n ≤ 4611686018427387904) :
  Src 71 (.pointer (some ⟨P, 0, none⟩)) 132 (.pointer (some ⟨P, 0, none⟩)) (itF L) (ErS P L) (GS w0 P io n cap) where
 meth w := by kernel_rfl
 nila w := by kernel_rfl
 enter args w := Tryz.call132 args w
 lim h := h.lim
 keep h hk := h.keep hk
 erk h hk := ⟨h.1.kept hk, hk.cellOf h.2 (by simp)⟩
 get := by
  rintro asked o w i hi ha hgl ⟨va, ve, hs, rfl⟩
  refine (sget9_ok L i hs hits hlen hn hi ha).mono ?_
  rintro e w' ⟨v, ev, va', ve', rfl, hs', hk, hbl, han⟩
  have hbp : ∀ g, va.ownBlock = some g → P + 1 ≤ g := fun g hg => own_far9 hs.a.1 g hg
  have hgl' : GlE w' := hk.cellOf hgl (fun hm => by
   have h1 := hs.far
   simp only [List.mem_cons, Option.mem_toList] at hm
   rcases hm with hm | hm
   ·omega
   ·have := hbp _ hm; omega)
  refine ⟨v, ev, _, rfl, ⟨va', ve', hs', rfl⟩, ?_, Kp.ofKept hk (fun b hb _ => ?_), ?_⟩
  ·rintro b (rfl | hb | hb)
   ·exact .inl (.inl rfl)
   ·exact (hbl b hb).imp (fun h => .inr (.inl h)) id
   ·exact .inl (.inr (.inr hb))
  ·simp only [List.mem_cons, Option.mem_toList] at hb
   rcases hb with hb | hb
   ·exact .inl hb
   ·exact .inr (.inl hb)
  ·rcases han with ⟨hin, hcd, rfl, hob, _⟩ | ⟨rfl, he, rfl⟩
   ·have hf : itF L i = .data (fst9 L i).bs := by unfold itF; rw [if_pos hin, if_pos hcd]
    obtain ⟨z, hz, e1, _⟩ := fst9_in hin
    have hib := (hits z hz).2.inb
    rw [← e1] at hib
    rw [hf]
    obtain ⟨ao, n, c, rfl, h1, _, h3, h4, h5⟩ := vl9_of hob (by have a1 := hib.len; have a2 := hib.le; have a3 := hib.max; omega)
    exact ⟨rfl, ao, n, c, rfl, h1, h3, h4, h5⟩
   ·have hcell : w'.cell? ⟨P, 2, none⟩ = some ve' := by rw [cell_of_row _ _ _ _ _ _ hs'.row]; rfl
    have hsh := he.shape
    have hch : ve' = foreV ∨ ∃ k c, Chn w' k ve' (errnoV c) ∧ ((i ∉ ids9 L ∧ c = 93) ∨ (i ∈ ids9 L ∧ c = (fst9 L i).code)) := by
     rcases he with ⟨h0, h1⟩ | ⟨h0, ⟨_, h1⟩ | ⟨_, _, ⟨_, eb, h1, h2⟩ | ⟨_, h1⟩⟩⟩
     ·exact .inr ⟨0, 93, h1, .inl ⟨h0, rfl⟩⟩
     ·exact .inl h1
     ·exact .inr ⟨1, _, ⟨eb, _, h1, h2.err hi, rfl⟩, .inr ⟨h0, rfl⟩⟩
     ·exact .inr ⟨0, _, h1, .inr ⟨h0, rfl⟩⟩
    have hcl : i ∈ ids9 L → (fst9 L i).code ≠ 0 := fun hin => by
     rcases he with ⟨h0, _⟩ | ⟨_, ⟨h1, _⟩ | ⟨_, h1, _⟩⟩
     ·exact absurd hin h0
     ·omega
     ·exact h1
    cases hf : itF L i with
    | data xs =>
     exfalso
     unfold itF at hf
     by_cases hin : i ∈ ids9 L
     ·rw [if_pos hin, if_neg (hcl hin)] at hf
      by_cases h9 : (fst9 L i).code = 93 ∨ (fst9 L i).code = 94
      ·rw [if_pos h9] at hf; cases hf
      ·rw [if_neg h9] at hf; cases hf
     ·rw [if_neg hin] at hf; cases hf
    | lack =>
     refine ⟨hsh, ?_⟩
     rcases hch with rfl | ⟨k, c, hc, hcc⟩
     ·exfalso
      rcases he with ⟨h0, h1⟩ | ⟨h0, ⟨h2, h1⟩ | ⟨_, _, ⟨_, eb, h1, h2⟩ | ⟨_, h1⟩⟩⟩
      ·unfold foreV errnoV at h1; injection h1 with h1 _; exact absurd h1 (by decide)
      ·unfold itF at hf
       rw [if_pos h0, if_neg (by omega), if_neg (by omega)] at hf
       cases hf
      ·unfold foreV faultV at h1; injection h1 with h1 _; exact absurd h1 (by decide)
      ·unfold foreV errnoV at h1; injection h1 with h1 _; exact absurd h1 (by decide)
     ·refine (tellsErrno_ok k ve' c w' hgl' hc).mono ?_
      rintro e w2 ⟨rfl, hk2⟩
      refine ⟨?_, hk2⟩
      rcases hcc with ⟨_, rfl⟩ | ⟨hin, rfl⟩
      ·rfl
      ·unfold itF at hf
       rw [if_pos hin, if_neg (hcl hin)] at hf
       by_cases h9 : (fst9 L i).code = 93 ∨ (fst9 L i).code = 94
       ·rcases h9 with h9 | h9 <;> rw [h9] <;> rfl
       ·rw [if_neg h9] at hf; cases hf
    | fail =>
     refine ⟨hsh, ⟨he, hcell⟩, ?_⟩
     rcases hch with rfl | ⟨k, c, hc, hcc⟩
     ·exact tellsFor_ok w' hgl'
     ·refine (tellsErrno_ok k ve' c w' hgl' hc).mono ?_
      rintro e w2 ⟨rfl, hk2⟩
      refine ⟨?_, hk2⟩
      rcases hcc with ⟨h0, _⟩ | ⟨hin, rfl⟩
      ·unfold itF at hf; rw [if_neg h0] at hf; cases hf
      ·unfold itF at hf
       rw [if_pos hin, if_neg (hcl hin)] at hf
       by_cases h9 : (fst9 L i).code = 93 ∨ (fst9 L i).code = 94
       ·rw [if_pos h9] at hf; cases hf
       ·have a1 : (fst9 L i).code ≠ 93 := fun h => h9 (.inl h)
        have a2 : (fst9 L i).code ≠ 94 := fun h => h9 (.inr h)
        simp [a1, a2]
end
end

section
open Go.RowKit Go.Lib Go.Sort
set_option linter.unusedVariables false
set_option linter.unusedSimpArgs false
def idsL (L : List It9) : List (List UInt8) := (ids9 L).flatMap (fun q => idsP (fst9 L q).bs)
theorem itF_data {L : List It9} {i xs : List UInt8} (h : itF L i = .data xs) : i ∈ ids9 L ∧ xs = (fst9 L i).bs := by
  unfold itF at h
  by_cases hin : i ∈ ids9 L
  · rw [if_pos hin] at h
    by_cases h0 : (fst9 L i).code = 0
    · rw [if_pos h0] at h; injection h with h; exact ⟨hin, h.symm⟩
    · rw [if_neg h0] at h
      by_cases h9 : (fst9 L i).code = 93 ∨ (fst9 L i).code = 94
      · rw [if_pos h9] at h; cases h
      · rw [if_neg h9] at h; cases h
  · rw [if_neg hin] at h; cases h
theorem idsL_in {L : List It9} : ∀ i xs E, itF L i = .data xs → Tn.parse xs = some E → ∀ e ∈ E, e.id ∈ idsL L := by
  intro i xs E h hp e he
  obtain ⟨h1, rfl⟩ := itF_data h
  refine List.mem_flatMap.2 ⟨i, h1, ?_⟩
  unfold idsP
  simp only [hp]
  exact List.mem_map_of_mem he
theorem idsP_len (xs : List UInt8) : (idsP xs).length ≤ 32 := by
  unfold idsP
  cases hp : Tn.parse xs with
  | none => simp
  | some E => simpa using parse_lenK hp
theorem flat_lenS {α β : Type} (l : List α) (g : α → List β) (k : Nat) (h : ∀ x, (g x).length ≤ k) : (l.flatMap g).length ≤ l.length * k := by
  induction l with
  | nil => simp
  | cons a r ih =>
    have := h a
    simp only [List.flatMap_cons, List.length_append, List.length_cons, Nat.succ_mul]
    omega
theorem idsL_len (L : List It9) : (idsL L).length ≤ 1920 := by
  have h1 := flat_lenS (ids9 L) (fun q => idsP (fst9 L q).bs) 32 (fun q => idsP_len _)
  have h2 := ids9_len L
  unfold idsL
  omega
section
variable {w0 w : World} {P : Nat} {io : Option Addr} {n cap : Nat} {L : List It9} {va0 ve0 : Value}
def oS (w0 : World) (P : Nat) : Nat → Prop := fun b => b = P ∨ (4 ≤ b ∧ b < w0.heap.size)
theorem gs_begin (h : SoAt w0 w P io n cap (.slice none 0 0) ve0 []) : GS w0 P io n cap [] (oS w0 P) w :=
  ⟨_, _, h, by funext b; unfold oS; simp [Value.ownBlock]⟩
theorem wzS_parts {T : TypeId} {sv : Value} {wb w1 w' : World} {ub : Nat → Prop} {P' : Nat} {x : Wfd} {s : Ws} (hs : SoAt w0 w P io n cap (.slice none 0 0) ve0 []) (h : Wz w (oS w0 P) wb ub T sv (GS w0 P io n cap) P' x s w1) (hk : Kept [] w1 w') :
    Kept [P] w w' ∧ GlE w' ∧ Tabs w' ∧ ∃ va ve, SoAt w0 w' P io n cap va ve s.ord := by
  obtain ⟨F, V, o, h1, _⟩ := h
  obtain ⟨va, ve, h2, _⟩ := h1.src
  have h2' := h2.kept hk
  have hkp := h1.kp.trans (Kp.ofKept (o := fun _ => False) hk (by simp)) (fun _ h => h.elim)
  refine ⟨⟨hkp.os, hkp.tape, hkp.output, hkp.size, fun b hb hn => ?_⟩, hk.cellOf h1.gl (by simp), h1.tabs.kept hk (by simp), va, ve, h2'⟩
  simp only [List.mem_singleton] at hn
  by_cases hr : 4 ≤ b ∧ b < w0.heap.size
  · rw [h2'.st b hr.2, hs.st b hr.2]
  · exact hkp.block b hb (fun ho => by
      rcases ho with ho | ho
      · exact hn ho
      · exact hr ho)
structure NdS (w0 : World) (P : Nat) (io : Option Addr) (n cap : Nat) (L : List It9) (roots : List (List UInt8)) (w : World) (e : Ending) (w' : World) : Prop where
  kp : Kept [P] w w'
  gl : GlE w'
  tabs : Tabs w'
  ans : ∃ va ve, SoAt w0 w' P io n cap va ve (walkW (itF L) [] roots).2.1.ord ∧
    ((∃ i eb, (walkW (itF L) [] roots).1 = some i ∧ e = .returned (.tuple #[.slice none 0 0, faultV eb]) ∧ FltAt w' eb opNeed i ve ∧ ErrA w' L i ve) ∨
     (∃ cd i eb, (walkW (itF L) [] roots).1 = none ∧ picks (walkW (itF L) [] roots).2.1.B (walkW (itF L) [] roots).2.2 (walkW (itF L) [] roots).2.1.L = some (cd, i) ∧ e = .returned (.tuple #[.slice none 0 0, faultV eb]) ∧ FltAt w' eb opNeed i (.iface 57 (.int .i64 cd)) ∧ i.length = 32) ∨
     (∃ v, (walkW (itF L) [] roots).1 = none ∧ picks (walkW (itF L) [] roots).2.1.B (walkW (itF L) [] roots).2.2 (walkW (itF L) [] roots).2.1.L = none ∧ e = .returned (.tuple #[v, .nilIface]) ∧ OwnI w' w.heap.size v (canon (walkW (itF L) [] roots).2.1.N)))
structure LkS (w0 : World) (P : Nat) (io : Option Addr) (n cap : Nat) (L : List It9) (roots : List (List UInt8)) (w : World) (e : Ending) (w' : World) : Prop where
  kp : Kept [P] w w'
  gl : GlE w'
  tabs : Tabs w'
  ans : ∃ va ve, SoAt w0 w' P io n cap va ve (walkW (itF L) [] roots).2.1.ord ∧
    ((∃ i eb, (walkW (itF L) [] roots).1 = some i ∧ e = .returned (.tuple #[.slice none 0 0, faultV eb]) ∧ FltAt w' eb opLacks i ve ∧ ErrA w' L i ve) ∨
     (∃ v, (walkW (itF L) [] roots).1 = none ∧ e = .returned (.tuple #[v, .nilIface]) ∧ OwnI w' w.heap.size v (canon (walkW (itF L) [] roots).2.1.L)))
theorem said_eq {asked : List (List UInt8)} {va ve ev : Value} (h : SoAt w0 w P io n cap va ve asked) (hc : w.cell? ⟨P, 2, none⟩ = some ev) : ve = ev := by
  have : w.cell? ⟨P, 2, none⟩ = some ve := by rw [cell_of_row _ _ _ _ _ _ h.row]; rfl
  rw [this] at hc
  exact Option.some.inj hc
theorem sneed9_ok (hs : SoAt w0 w P io n cap (.slice none 0 0) ve0 []) (htop : 4 ≤ w0.heap.size) (hits : ItsAt w0 io L) (hlen : L.length = n) (hn : n ≤ 4611686018427387904) (gl : GlE w) (tabs : Tabs w) (ao : Option Addr) (m c : Nat) (R : List Rz) (hl : R.length = m) (hR : Rss w ao R) (hm : m + 1920 ≤ 4398046511104) (hfar : R ≠ [] → ∀ a, ao = some a → a.block < w.heap.size) :
    Calls Tryz.prog 19 #[.iface 71 (.pointer (some ⟨P, 0, none⟩)), .slice ao m c] w fun e w' => NdS w0 P io n cap L (R.map (·.root)) w e w' := by
  have S := sources9 (P := P) (cap := cap) htop hits hlen hn
  have hG := gs_begin hs
  have hoff : ∀ b, b < 4 → ¬ oS w0 P b := fun b hb ho => by
    have := hs.far
    rcases ho with ho | ho <;> omega
  have hU1 : ∀ q ∈ R.map (·.root), q ∈ R.map (·.root) ++ idsL L := fun q hq => List.mem_append_left _ hq
  have hU2 : ∀ i xs E, itF L i = .data xs → Tn.parse xs = some E → ∀ e ∈ E, e.id ∈ R.map (·.root) ++ idsL L := fun i xs E h1 h2 e he => List.mem_append_right _ (idsL_in i xs E h1 h2 e he)
  have hUl : (R.map (·.root) ++ idsL L).length ≤ 4398046511104 := by
    have := idsL_len L
    rw [List.length_append, List.length_map]
    omega
  have hfo := follow_ok S opNeed hG gl tabs hoff ao m c R hl hR (by omega) hfar _ hU1 hU2 hUl rfl
  have hin := walkW_in hU2 [] hU1
  have hne := need_of (f := itF L) (fn := 0) (rv := .nilIface) hfo _ hin.1 hin.2.1 hin.2.2 hUl
  refine hne.mono ?_
  intro e w' h
  rcases h with ⟨i, eb, ev, P', x, wb, ub, h1, rfl, h3, h4, h5⟩ | ⟨cd, i, eb, w1, P', x, wb, ub, h1, h2, rfl, h4, h5, h8, h6, h7⟩ | ⟨v, w1, P', x, wb, ub, h1, h2, rfl, h4, h5, h6, h7⟩
  · obtain ⟨k1, k2, k3, va, ve, k4⟩ := wzS_parts hs h5 (Kept.refl [] w')
    obtain rfl := said_eq k4 h4.2
    exact ⟨k1, k2, k3, va, ve, k4, .inl ⟨i, eb, h1, rfl, h3, h4.1⟩⟩
  · obtain ⟨k1, k2, k3, va, ve, k4⟩ := wzS_parts hs h7 h6
    exact ⟨k1, k2, k3, va, ve, k4, .inr (.inl ⟨cd, i, eb, h1, h2, rfl, h4, h8⟩)⟩
  · obtain ⟨k1, k2, k3, va, ve, k4⟩ := wzS_parts hs h7 h6
    exact ⟨k1, k2, k3, va, ve, k4, .inr (.inr ⟨v, h1, h2, rfl, h4.base9 h5⟩)⟩
theorem slacks9_ok (hs : SoAt w0 w P io n cap (.slice none 0 0) ve0 []) (htop : 4 ≤ w0.heap.size) (hits : ItsAt w0 io L) (hlen : L.length = n) (hn : n ≤ 4611686018427387904) (gl : GlE w) (tabs : Tabs w) (ao : Option Addr) (m c : Nat) (R : List Rz) (hl : R.length = m) (hR : Rss w ao R) (hm : m + 1920 ≤ 4398046511104) (hfar : R ≠ [] → ∀ a, ao = some a → a.block < w.heap.size) :
    Calls Tryz.prog 20 #[.iface 71 (.pointer (some ⟨P, 0, none⟩)), .slice ao m c] w fun e w' => LkS w0 P io n cap L (R.map (·.root)) w e w' := by
  have S := sources9 (P := P) (cap := cap) htop hits hlen hn
  have hG := gs_begin hs
  have hoff : ∀ b, b < 4 → ¬ oS w0 P b := fun b hb ho => by
    have := hs.far
    rcases ho with ho | ho <;> omega
  have hU1 : ∀ q ∈ R.map (·.root), q ∈ R.map (·.root) ++ idsL L := fun q hq => List.mem_append_left _ hq
  have hU2 : ∀ i xs E, itF L i = .data xs → Tn.parse xs = some E → ∀ e ∈ E, e.id ∈ R.map (·.root) ++ idsL L := fun i xs E h1 h2 e he => List.mem_append_right _ (idsL_in i xs E h1 h2 e he)
  have hUl : (R.map (·.root) ++ idsL L).length ≤ 4398046511104 := by
    have := idsL_len L
    rw [List.length_append, List.length_map]
    omega
  have hfo := follow_ok S opLacks hG gl tabs hoff ao m c R hl hR (by omega) hfar _ hU1 hU2 hUl rfl
  have hin := walkW_in hU2 [] hU1
  have hne := lacks_of (f := itF L) (fn := 0) (rv := .nilIface) hfo _ hin.2.1.1 hUl
  refine hne.mono ?_
  intro e w' h
  rcases h with ⟨i, eb, ev, P', x, wb, ub, h1, rfl, h3, h4, h5⟩ | ⟨v, w1, P', x, wb, ub, h1, rfl, h4, h5, h6, h7⟩
  · obtain ⟨k1, k2, k3, va, ve, k4⟩ := wzS_parts hs h5 (Kept.refl [] w')
    obtain rfl := said_eq k4 h4.2
    exact ⟨k1, k2, k3, va, ve, k4, .inl ⟨i, eb, h1, rfl, h3, h4.1⟩⟩
  · obtain ⟨k1, k2, k3, va, ve, k4⟩ := wzS_parts hs h7 h6
    exact ⟨k1, k2, k3, va, ve, k4, .inr ⟨v, h1, rfl, h4.base9 h5⟩⟩
end
end

end Go.Proofs.YtngaimahhgmciaaGreatDoor
