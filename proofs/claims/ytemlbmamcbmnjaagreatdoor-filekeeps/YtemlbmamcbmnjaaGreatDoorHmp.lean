/-
  Contract: Crash. (Written by tools/hm.py.)
-/
import Derived.Test.YtemlbmamcbmnjaaGreatDoorHip
import Derived.Test.YtemlbmamcbmnjaaGreatDoorHgp
namespace Go.Proofs.YtemlbmamcbmnjaaGreatDoor
open Go.RowKit Dsk
set_option linter.unusedVariables false
set_option linter.unusedSimpArgs false

/-- Picks that are handed in. -/
structure Picks (w : World) (o : Lab) (ao : Option Addr) (n : Nat) (ps : List Int) : Prop where
  len : ps.length = n
  row : Ints w ao ps
  wf : ∀ i, (Lit.int .i64 (ps.getD i 0)).wf = true
  out : ps ≠ [] → ∀ a, ao = some a → o a.block = 0
theorem Picks.keep {w w' : World} {o : Lab} {ao : Option Addr} {n : Nat} {ps : List Int} (h : Picks w o ao n ps) (hk : Keep o.mine w w') : Picks w' o ao n ps :=
  ⟨h.len, h.row.kept hk (fun hd a ha hm => hm (h.out hd a ha)), h.wf, h.out⟩
theorem Picks.ext {w : World} {o o' : Lab} {ao : Option Addr} {n : Nat} {ps : List Int} (h : Picks w o ao n ps) (he : o.Ext o' w) : Picks w o' ao n ps := by
  refine ⟨h.len, h.row, h.wf, fun hd a ha => ?_⟩
  have h0 := h.out hd a ha
  obtain ⟨b, off, e, hc⟩ := h.row 0 (List.length_pos_iff.2 hd)
  rw [ha] at e
  injection e with e
  have hlt := World.block_lt_of_cell? _ _ hc
  apply Classical.byContradiction
  intro hne
  exact he a.block (by rw [e]; exact hlt) hne h0

/-- The disk behind the crash of its names. -/
def Ds.named (S : Ds) (l : Nm) : Ds := { S with safe := l, row := [], shown := l }
/-- .. with these things. -/
def Ds.thinged (S : Ds) (l : Nm) (th : Nat → Th) : Ds := { S with safe := l, row := [], shown := l, th := th }

theorem crashTh_snoc (ps : List Int) (i : Nat) (l : Nm) (x : By × Nat) (th : Nat → Th) : Ds.crashTh ps i (l ++ [x]) th = upd (Ds.crashTh ps i l th) x.2 ((Ds.crashTh ps i l th x.2).crash (ps.getD (i + l.length + 1) 0)) := by
  induction l generalizing i th with
  | nil => simp [Ds.crashTh]
  | cons y r ih =>
    simp only [List.cons_append, Ds.crashTh, List.length_cons]
    rw [ih]
    rw [show i + 1 + r.length + 1 = i + (r.length + 1) + 1 by omega]
theorem crashTh_ok' (ps : List Int) (i : Nat) (l : Nm) (th : Nat → Th) (k : Nat) (h : (th k).ok) : (Ds.crashTh ps i l th k).ok := by
  rcases Ds.crashTh_or ps i l th k with e | ⟨t, p, e⟩
  · rw [e]; exact h
  · rw [e]; exact Th.crash_ok t p

theorem thinged_wf {S : Ds} (h : S.Wf) (ps : List Int) (k : Nat) : (Ds.thinged S (S.crashNm ps) (Ds.crashTh ps 0 ((S.crashNm ps).take k) S.th)).Wf := by
  have hc := h.crash ps
  exact ⟨h.room, hc.up, rfl, trivial, hc.nodup, hc.lt, hc.nm, by simp [Ds.thinged], fun j hj => crashTh_ok' _ _ _ _ _ (h.th j hj)⟩

theorem dirCrash_pd {w : World} {p : Nat} {S : Ds} {A : Nat → Nat} {o : Lab} {ms mh : Nat} {rv sv : Value} {N : Nat} (h : PDx w p S A o ms mh rv sv) (hB : S.Bd N) (hN : N ≤ 268435456) (ps : List Int) (hw : (Lit.int .i64 (ps.getD 0 0)).wf = true) :
    Calls Tryz.prog 68 #[.pointer (some ⟨p, 2, none⟩), .int .i64 (ps.getD 0 0)] w fun e w' => e = .returned (.tuple #[]) ∧ ∃ ms' mh', PDx w' p (Ds.thinged S (S.crashNm ps) S.th) A (o.ext w w' 1) ms' mh' (.slice none 0 0) sv ∧ Keep (· = p) w w' := by
  have hnm := hB.nm
  have hsh : ∀ c ∈ S.row, ncShort c := by
    intro c hc
    have hn := h.wf.nmr _ hc
    cases c with
    | mk n k => exact isNm_len hn
    | gv f t => exact ⟨isNm_len hn.1, isNm_len hn.2⟩
    | tk n => exact isNm_len hn
  refine (dirCrash_ok (ps.getD 0 0) p 2 ms 98 _ rv A S.safe S.row w h.cells (by decide) (by simp) rfl rfl h.row h.safe h.wf.up h.wf.ok hsh (by omega) hw).mono ?_
  rintro e w' ⟨rfl, m1, m2, k1, k2, k3, k4, k5, k6, k7⟩
  have hwf : (Ds.thinged S (S.crashNm ps) S.th).Wf := by have := thinged_wf h.wf ps 0; simpa [Ds.crashTh] using this
  exact ⟨rfl, m2, m1, PDx.synced (S' := Ds.thinged S (S.crashNm ps) S.th) h k1 k2 k3 k7 k4 k6 (.inr k5) hwf rfl rfl rfl rfl rfl rfl h.pl, k4⟩
end Go.Proofs.YtemlbmamcbmnjaaGreatDoor
