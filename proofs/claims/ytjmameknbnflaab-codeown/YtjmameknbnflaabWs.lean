/-
  A writer's state, and what each call makes of it: one contract a call.
-/
import Derived.Test.YtjmameknbnflaabKn2
import Derived.Test.YtjmameknbnflaabDk1
namespace Go.Proofs.Ytjmameknbnflaab
open Go.RowKit
set_option linter.unusedVariables false
set_option linter.unusedSimpArgs false

/-- What was written, or none: a call was refused, or there is no writer. -/
def stWNumber (o : Option (List UInt8)) (v : Int) : Option (List UInt8) := o.bind fun ys => if 0 ≤ v ∧ v ≤ 2147483647 then some (ys ++ Pure.enc v.toNat) else none
def stWFixed (o : Option (List UInt8)) (v n : Int) : Option (List UInt8) := o.bind fun ys => if 1 ≤ n ∧ n ≤ 4 ∧ 0 ≤ v ∧ v < 256 ^ n.toNat then some (ys ++ Pure.fix v.toNat n.toNat) else none
def stWRaw (o : Option (List UInt8)) (ds : List UInt8) : Option (List UInt8) := o.map fun ys => ys ++ ds
def stWText (o : Option (List UInt8)) (ds : List UInt8) : Option (List UInt8) := o.map fun ys => ys ++ Pure.enc ds.length ++ ds

/-- The program's writer in a state; its blocks. -/
def WrS (w : World) (p : Option Addr) (fp : List Nat) (o : Option (List UInt8)) : Prop :=
  (∃ b bs ys, o = some ys ∧ p = some ⟨b, 0, none⟩ ∧ fp = b :: bs ∧ Wr w b bs ys) ∨ (o = none ∧ Shut w p ∧ ∀ a, p = some a → fp = [a.block])

theorem WrS.kept {l : List Nat} {w w' : World} {p : Option Addr} {fp : List Nat} {o : Option (List UInt8)} (h : WrS w p fp o) (hk : Kept l w w') (hn : ∀ g, g ∈ fp → g ∉ l) : WrS w' p fp o := by
  rcases h with ⟨b, bs, ys, rfl, rfl, rfl, hw⟩ | ⟨rfl, hs, hp⟩
  · exact .inl ⟨b, bs, ys, rfl, rfl, rfl, hw.kept hk (hn b (by simp)) (fun g hg => hn g (by simp [hg]))⟩
  · exact .inr ⟨rfl, hs.kept hk (fun a ha => hn _ (by rw [hp a ha]; simp)), hp⟩

theorem Wr.lts {w : World} {b : Nat} {bs : List Nat} {xs : List UInt8} (h : Wr w b bs xs) : ∀ g, g ∈ bs → g < w.heap.size := by
  obtain ⟨q, last, h1, h2, h3⟩ := h.ex
  exact h3.lt
/-- Its blocks lie there. -/
theorem WrS.lts {w : World} {p : Option Addr} {fp : List Nat} {o : Option (List UInt8)} (h : WrS w p fp o) (hp0 : p ≠ none) : ∀ g, g ∈ fp → g < w.heap.size := by
  rcases h with ⟨b, bs, ys, rfl, rfl, rfl, hw⟩ | ⟨rfl, hs, hp⟩
  · intro g hg
    simp only [List.mem_cons] at hg
    rcases hg with rfl | hg
    · exact hw.lt
    · exact hw.lts g hg
  · rcases hs with rfl | ⟨b, rfl, h⟩
    · exact absurd rfl hp0
    · intro g hg
      rw [hp _ rfl] at hg
      simp only [List.mem_singleton] at hg
      subst hg
      exact World.block_lt_of_cell? _ _ h

/-- What a call of a writer leaves. -/
def WEnd (w w' : World) (p : Option Addr) (fp : List Nat) (o : Option (List UInt8)) : Prop :=
  ∃ fp', WrS w' p fp' o ∧ Kept fp w w' ∧ ∀ g, g ∈ fp' → g ∈ fp ∨ w.heap.size ≤ g

theorem wend_wrote {w w' : World} {b : Nat} {bs : List Nat} {xs : List UInt8} (h : Wrote w w' b bs xs) : WEnd w w' (some ⟨b, 0, none⟩) (b :: bs) (some xs) := by
  obtain ⟨bs', hw, hk, hs⟩ := h
  refine ⟨b :: bs', .inl ⟨b, bs', xs, rfl, rfl, rfl, hw⟩, hk.mono (by simp), fun g hg => ?_⟩
  simp only [List.mem_cons] at hg ⊢
  rcases hg with rfl | hg
  · exact .inl (.inl rfl)
  · rcases hs g hg with h | h
    · exact .inl (.inr h)
    · exact .inr h
theorem wend_bad {w w' : World} {b : Nat} {bs : List Nat} (h : Spoilt w' b) (hk : Kept [b] w w') : WEnd w w' (some ⟨b, 0, none⟩) (b :: bs) none :=
  ⟨[b], .inr ⟨rfl, .inr ⟨b, rfl, h⟩, fun a ha => by cases ha; rfl⟩, hk.mono (by simp), fun g hg => .inl (by simp only [List.mem_singleton] at hg; simp [hg])⟩
theorem wend_shut {w : World} {p : Option Addr} {fp : List Nat} (h : Shut w p) (hp : ∀ a, p = some a → fp = [a.block]) : WEnd w w p fp none :=
  ⟨fp, .inr ⟨rfl, h, hp⟩, Kept.refl _ _, fun g hg => .inl hg⟩

theorem wnumber_st {w : World} {p : Option Addr} {fp : List Nat} {o : Option (List UInt8)} (h : WrS w p fp o) (hl : ∀ ys, o = some ys → ys.length ≤ 100000000000) (v : Int) :
    Calls Try.prog 11 #[.pointer p, .int .i64 v] w fun e w' => e = .returned (.tuple #[]) ∧ WEnd w w' p fp (stWNumber o v) := by
  rcases h with ⟨b, bs, ys, rfl, rfl, rfl, hw⟩ | ⟨rfl, hs, hp⟩
  · have hy := hl ys rfl
    by_cases hv : 0 ≤ v ∧ v ≤ 2147483647
    · simp only [stWNumber, Option.bind_some, if_pos hv]
      exact (wnumber_i hw v hv.1 hv.2 (by omega)).mono fun e w' ⟨he, hwr⟩ => ⟨he, wend_wrote hwr⟩
    · simp only [stWNumber, Option.bind_some, if_neg hv]
      exact (wnumber_bad hw v (by omega)).mono fun e w' ⟨he, hsp, hk⟩ => ⟨he, wend_bad hsp hk⟩
  · simp only [stWNumber, Option.bind_none]
    exact (wnumber_shut hs v).mono fun e w' ⟨he, hw⟩ => by subst hw; exact ⟨he, wend_shut hs hp⟩

theorem wfixed_st {w : World} {p : Option Addr} {fp : List Nat} {o : Option (List UInt8)} (h : WrS w p fp o) (hl : ∀ ys, o = some ys → ys.length ≤ 100000000000) (v n : Int) :
    Calls Try.prog 21 #[.pointer p, .int .i64 v, .int .i64 n] w fun e w' => e = .returned (.tuple #[]) ∧ WEnd w w' p fp (stWFixed o v n) := by
  rcases h with ⟨b, bs, ys, rfl, rfl, rfl, hw⟩ | ⟨rfl, hs, hp⟩
  · have hy := hl ys rfl
    by_cases hv : 1 ≤ n ∧ n ≤ 4 ∧ 0 ≤ v ∧ v < 256 ^ n.toNat
    · simp only [stWFixed, Option.bind_some, if_pos hv]
      refine (wfixed_i hw v n hv.2.2.1 hv.1 hv.2.1 ?_ (by omega)).mono fun e w' ⟨he, hwr⟩ => ⟨he, wend_wrote hwr⟩
      have h1 := hv.2.2.2
      obtain ⟨m, rfl⟩ := Int.eq_ofNat_of_zero_le hv.2.2.1
      rw [Int.toNat_natCast]
      exact Int.ofNat_lt.1 (by rw [Int.natCast_pow]; exact h1)
    · simp only [stWFixed, Option.bind_some, if_neg hv]
      exact (wfixed_bad hw v n (by omega)).mono fun e w' ⟨he, hsp, hk⟩ => ⟨he, wend_bad hsp hk⟩
  · simp only [stWFixed, Option.bind_none]
    exact (wfixed_shut hs v n).mono fun e w' ⟨he, hw⟩ => by subst hw; exact ⟨he, wend_shut hs hp⟩

theorem wraw_st {w : World} {p : Option Addr} {fp : List Nat} {o : Option (List UInt8)} (h : WrS w p fp o) (hl : ∀ ys, o = some ys → ys.length ≤ 100000000000) (ao : Option Addr) (n cap : Nat) (xs : List UInt8) (hn : xs.length = n) (hs : Sl w ao xs) (hfar : ∀ a, ao = some a → a.block ∉ fp) (hlc : n ≤ cap) (hx : n ≤ 2000000000) :
    Calls Try.prog 22 #[.pointer p, .slice ao n cap] w fun e w' => e = .returned (.tuple #[]) ∧ WEnd w w' p fp (stWRaw o xs) := by
  rcases h with ⟨b, bs, ys, rfl, rfl, rfl, hw⟩ | ⟨rfl, hsh, hp⟩
  · have hy := hl ys rfl
    simp only [stWRaw, Option.map_some]
    exact (wraw_ok hw ao n cap xs hn hs (fun a ha => by have := hfar a ha; simp at this; exact this.1) (by omega) (by omega)).mono fun e w' ⟨he, hwr⟩ => ⟨he, wend_wrote hwr⟩
  · simp only [stWRaw, Option.map_none]
    exact (wraw_shut hsh ao n cap).mono fun e w' ⟨he, hw⟩ => by subst hw; exact ⟨he, wend_shut hsh hp⟩

theorem wtext_st {w : World} {p : Option Addr} {fp : List Nat} {o : Option (List UInt8)} (h : WrS w p fp o) (hl : ∀ ys, o = some ys → ys.length ≤ 100000000000) (ao : Option Addr) (n cap : Nat) (xs : List UInt8) (hn : xs.length = n) (hs : Sl w ao xs) (hfar : ∀ a, ao = some a → a.block ∉ fp) (hlc : n ≤ cap) (hx : n ≤ 2000000000) :
    Calls Try.prog 23 #[.pointer p, .slice ao n cap] w fun e w' => e = .returned (.tuple #[]) ∧ WEnd w w' p fp (stWText o xs) := by
  rcases h with ⟨b, bs, ys, rfl, rfl, rfl, hw⟩ | ⟨rfl, hsh, hp⟩
  · have hy := hl ys rfl
    simp only [stWText, Option.map_some]
    exact (wtext_ok hw ao n cap xs hn hs (fun a ha => by have := hfar a ha; simp at this; exact this.1) (by omega) (by omega) (by omega)).mono fun e w' ⟨he, hwr⟩ => ⟨he, wend_wrote hwr⟩
  · simp only [stWText, Option.map_none]
    exact (wtext_shut hsh ao n cap (by omega)).mono fun e w' ⟨he, hw⟩ => by subst hw; exact ⟨he, wend_shut hsh hp⟩

/-- What Data answers. -/
def DataEnd (w w' : World) (e : Ending) (o : Option (List UInt8)) : Prop :=
  match o with
  | some ys => ∃ ao cap, e = .returned (.tuple #[.slice ao ys.length cap, .int .i64 0]) ∧ Fresh w w' ao cap ys
  | none => e = .returned (.tuple #[.slice none 0 0, .int .i64 1])

theorem wdata_st {w : World} {p : Option Addr} {fp : List Nat} {o : Option (List UInt8)} (h : WrS w p fp o) (hl : ∀ ys, o = some ys → ys.length ≤ 100000000000) :
    Calls Try.prog 10 #[.pointer p] w fun e w' => DataEnd w w' e o ∧ Kept [] w w' := by
  rcases h with ⟨b, bs, ys, rfl, rfl, rfl, hw⟩ | ⟨rfl, hsh, hp⟩
  · have hy := hl ys rfl
    exact (wdata_ok hw (by omega)).mono fun e w' ⟨ao, cap, he, hfr, hnn, hk⟩ => ⟨⟨ao, cap, he, hfr⟩, hk⟩
  · exact (wdata_shut hsh).mono fun e w' ⟨he, hw⟩ => ⟨he, hw ▸ Kept.refl _ _⟩

/-- One call of a script, by the document. -/
def stPut (o : Option (List UInt8)) (kd vv wd : Int) (ds : List UInt8) : Option (List UInt8) :=
  if kd = 1 then stWNumber o vv else if kd = 2 then stWFixed o vv wd else if kd = 3 then stWRaw o ds else if kd = 4 then stWText o ds else o

/-- It adds little. -/
theorem stPut_len {o : Option (List UInt8)} {kd vv wd : Int} {ds : List UInt8} (hd : ds.length ≤ 200000) {m : Nat} (h : ∀ ys, o = some ys → ys.length ≤ m) : ∀ ys, stPut o kd vv wd ds = some ys → ys.length ≤ m + 200005 := by
  intro ys hy
  cases o with
  | none =>
    unfold stPut at hy
    simp [stWNumber, stWFixed, stWRaw, stWText] at hy
  | some zs =>
    have hz := h zs rfl
    unfold stPut at hy
    split at hy
    · simp only [stWNumber, Option.bind_some] at hy
      split at hy
      · rename_i hv
        cases hy
        have := Pure.enc_len5 (v := vv.toNat) (by omega)
        simp; omega
      · cases hy
    · split at hy
      · simp only [stWFixed, Option.bind_some] at hy
        split at hy
        · rename_i hv
          cases hy
          simp [Pure.fix_len]; omega
        · cases hy
      · split at hy
        · simp only [stWRaw, Option.map_some] at hy
          cases hy
          simp; omega
        · split at hy
          · simp only [stWText, Option.map_some] at hy
            cases hy
            have := Pure.enc_len5 (v := ds.length) (by omega)
            simp; omega
          · cases hy
            omega

end Go.Proofs.Ytjmameknbnflaab
