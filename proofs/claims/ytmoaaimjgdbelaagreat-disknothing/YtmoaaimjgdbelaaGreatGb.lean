/-
  The disk as mathematics: the state, the calls.
-/
import Derived.Test.YtmoaaimjgdbelaaGreatGa
namespace Go.Proofs.YtmoaaimjgdbelaaGreat
set_option linter.unusedVariables false
set_option linter.unusedSimpArgs false
namespace Dsk

structure Th where
  safe : By
  row : List Ch
  shown : By
def Th.new : Th := ⟨[], [], []⟩
def Th.ok (t : Th) : Prop := fits t.safe t.row ∧ t.shown = runs t.safe t.row
def Th.change (t : Th) (c : Ch) : Th := ⟨t.safe, t.row ++ [c], c.apply t.shown c.units⟩
def Th.sync (t : Th) : Th := ⟨t.shown, [], t.shown⟩
def rnd (p : Int) (n : Nat) : Nat := (p % ((n : Int) + 1)).toNat
def Th.crash (t : Th) (p : Int) : Th := ⟨torn t.safe t.row (rnd p (unitsOf t.row)), [], torn t.safe t.row (rnd p (unitsOf t.row))⟩

theorem rnd_le (p : Int) (n : Nat) : rnd p n ≤ n := by
  unfold rnd
  have h1 := Int.emod_nonneg p (b := (n : Int) + 1) (by omega)
  have h2 := Int.emod_lt_of_pos p (b := (n : Int) + 1) (by omega)
  omega

theorem Th.new_ok : Th.new.ok := ⟨trivial, rfl⟩
theorem Th.ok.change {t : Th} (h : t.ok) {c : Ch} (hc : c.place ≤ t.shown.length) : (t.change c).ok := by
  refine ⟨(fits_snoc _ _ _).2 ⟨h.1, by show c.place ≤ (runs t.safe t.row).length; rw [← h.2]; exact hc⟩, ?_⟩
  show c.apply t.shown c.units = runs t.safe (t.row ++ [c])
  rw [runs_snoc, ← h.2]
theorem Th.sync_ok (t : Th) : t.sync.ok := ⟨trivial, rfl⟩
theorem Th.crash_ok (t : Th) (p : Int) : (t.crash p).ok := ⟨trivial, rfl⟩

structure Span where
  name : By
  at_ : Nat
  n : Nat

/-- A disk. -/
structure Ds where
  room : Nat
  on : Bool
  safe : Nm
  row : List Nc
  shown : Nm
  th : Nat → Th
  nx : Nat
  strokes : Nat
  off : Int
  from_ : Int
  to : Int
  planned : Nat
  reads : List Span

def okByte (c : UInt8) : Bool := (97 ≤ c && c ≤ 122) || (48 ≤ c && c ≤ 57) || c == 46 || c == 45 || c == 95 || c == 43
def isNm (n : By) : Bool := decide (1 ≤ n.length) && decide (n.length ≤ 112) && n.all okByte

def upd {α : Type} (f : Nat → α) (k : Nat) (a : α) : Nat → α := fun j => if j = k then a else f j
theorem upd_same {α : Type} (f : Nat → α) (k : Nat) (a : α) : upd f k a k = a := by simp [upd]
theorem upd_other {α : Type} (f : Nat → α) {k j : Nat} (a : α) (h : j ≠ k) : upd f k a j = f j := by simp [upd, h]

namespace Ds
def used (S : Ds) : Nat := (S.shown.map (fun p => (S.th p.2).shown.length)).sum
def lacks (S : Ds) : Bool := decide (S.from_ ≤ (S.planned : Int) + 1) && decide ((S.planned : Int) + 1 ≤ S.to)
/-- Is it refused for room, that so many bytes come? -/
def full (S : Ds) (more : Int) : Bool := S.lacks || (decide (0 < more) && decide ((S.room : Int) < S.used + more))
def goesOff (S : Ds) : Bool := decide ((S.planned : Int) + 1 = S.off)
/-- A stroke. -/
def tick (S : Ds) : Ds := { S with strokes := S.strokes + 1, planned := S.planned + 1, on := S.on && !S.goesOff }
/-- What it answers. -/
def ans (S : Ds) (refused : Int) : Int := if S.goesOff then 50 else refused

/-- Why there is no thing of that name, or 0 and the thing. -/
def find (S : Ds) (n : By) : Int × Nat :=
  if S.on then (if isNm n then (match S.shown.get n with | some k => (0, k) | none => (53, 0)) else (51, 0)) else (50, 0)

def addName (S : Ds) (c : Nc) : Ds := { S with row := S.row ++ [c], shown := c.apply S.shown }
def addByte (S : Ds) (k : Nat) (c : Ch) : Ds := { S with th := upd S.th k ((S.th k).change c) }

def refusedCreate (S : Ds) : Int := if 256 ≤ S.shown.length then 56 else if S.lacks then 55 else 0
def create (S : Ds) (n : By) : Int × Ds :=
  if (S.find n).1 = 0 then (52, S)
  else if (S.find n).1 ≠ 53 then ((S.find n).1, S)
  else if S.refusedCreate = 0 then (S.ans 0, ({ S.tick with th := upd S.th S.nx Th.new, nx := S.nx + 1 } : Ds).addName (.mk n S.nx))
  else (S.ans S.refusedCreate, S.tick)

def write (S : Ds) (k : Nat) (a : Nat) (d : By) : Int × Ds :=
  if S.full ((a : Int) + d.length - (S.th k).shown.length) then (S.ans 55, S.tick)
  else (S.ans 0, S.tick.addByte k (.wr a d))
def writeAt (S : Ds) (n : By) (a : Int) (d : By) : Int × Ds :=
  if (S.find n).1 ≠ 0 then ((S.find n).1, S)
  else if a < 0 ∨ (S.th (S.find n).2).shown.length < a then (54, S)
  else S.write (S.find n).2 a.toNat d
def append (S : Ds) (n : By) (d : By) : Int × Ds :=
  if (S.find n).1 ≠ 0 then ((S.find n).1, S) else S.write (S.find n).2 (S.th (S.find n).2).shown.length d
def truncate (S : Ds) (n : By) (a : Int) : Int × Ds :=
  if (S.find n).1 ≠ 0 then ((S.find n).1, S)
  else if a < 0 ∨ (S.th (S.find n).2).shown.length < a then (54, S)
  else (S.ans 0, S.tick.addByte (S.find n).2 (.cut a.toNat))
def rename (S : Ds) (f t : By) : Int × Ds :=
  if S.on then
    (if isNm t then
      (if (S.find f).1 ≠ 0 then ((S.find f).1, S)
       else if f = t then (S.ans 0, S.tick) else (S.ans 0, S.tick.addName (.gv f t)))
     else (51, S))
  else (50, S)
def remove (S : Ds) (n : By) : Int × Ds :=
  if (S.find n).1 ≠ 0 then ((S.find n).1, S) else (S.ans 0, S.tick.addName (.tk n))
def sync (S : Ds) (n : By) : Int × Ds :=
  if (S.find n).1 ≠ 0 then ((S.find n).1, S)
  else if S.goesOff then (50, S.tick) else (0, { S.tick with th := upd S.th (S.find n).2 (S.th (S.find n).2).sync })
def syncNames (S : Ds) : Int × Ds :=
  if S.on then (if S.goesOff then (50, S.tick) else (0, { S.tick with safe := S.shown, row := [] })) else (50, S)
def readOk (S : Ds) (n : By) (a m : Int) : Int :=
  if (S.find n).1 ≠ 0 then (S.find n).1
  else if a < 0 ∨ m < 0 ∨ ((S.th (S.find n).2).shown.length : Int) < a ∨ ((S.th (S.find n).2).shown.length : Int) - a < m then 54 else 0
def readBytes (S : Ds) (n : By) (a m : Int) : By := if S.readOk n a m = 0 then ((S.th (S.find n).2).shown.drop a.toNat).take m.toNat else []
def read (S : Ds) (n : By) (a m : Int) : Ds := if S.readOk n a m = 0 then { S with reads := S.reads ++ [⟨n, a.toNat, m.toNat⟩] } else S
def size (S : Ds) (n : By) : Int := if (S.find n).1 ≠ 0 then 0 else (S.th (S.find n).2).shown.length
def list (S : Ds) (p : By) : List By := if S.on then S.shown.keys.filter (fun n => p.isPrefixOf n) else []
def setPlan (S : Ds) (o f t : Int) : Ds := if S.on then { S with off := o, from_ := f, to := t, planned := 0 } else S
def files (S : Ds) : List (By × By) := S.shown.map (fun p => (p.1, (S.th p.2).shown))
def safeFiles (S : Ds) : List (By × By) := S.safe.map (fun p => (p.1, (S.th p.2).safe))
def look (S : Ds) : Ds := { S with reads := [] }

/-- The things of these names behind a crash: i of them have had their picks. -/
def crashTh (ps : List Int) : Nat → Nm → (Nat → Th) → (Nat → Th)
  | _, [], th => th
  | i, p :: r, th => crashTh ps (i + 1) r (upd th p.2 ((th p.2).crash (ps.getD (i + 1) 0)))
def crashNm (S : Ds) (ps : List Int) : Nm := runN S.safe (S.row.take (rnd (ps.getD 0 0) S.row.length))
def crash (S : Ds) (ps : List Int) : Ds :=
  { S with on := true, safe := S.crashNm ps, row := [], shown := S.crashNm ps, th := crashTh ps 0 (S.crashNm ps) S.th, strokes := 0, off := 0, from_ := 0, to := 0, planned := 0 }
def fresh (room : Nat) : Ds := ⟨room, true, [], [], [], fun _ => Th.new, 0, 0, 0, 0, 0, 0, []⟩

/-- What always holds of a disk. -/
structure Wf (S : Ds) : Prop where
  room : 1 ≤ S.room ∧ S.room ≤ 1048576
  up : S.safe.Up
  shown : S.shown = runN S.safe S.row
  ok : okN S.safe S.row
  nodup : (S.safe.ids ++ madeN S.row).Nodup
  lt : ∀ k ∈ S.safe.ids ++ madeN S.row, k < S.nx
  nm : ∀ p ∈ S.safe, isNm p.1 = true
  nmr : ∀ c ∈ S.row, match c with | .mk n _ => isNm n = true | .gv f t => isNm f = true ∧ isNm t = true | .tk n => isNm n = true
  th : ∀ k, k < S.nx → (S.th k).ok

/-- How much there is of it. -/
structure Bd (S : Ds) (N : Nat) : Prop where
  nm : S.safe.length + S.row.length ≤ N
  th : ∀ k, k < S.nx → (S.th k).safe.length + unitsOf (S.th k).row + (S.th k).row.length ≤ N
  reads : S.reads.length ≤ N
  strokes : S.strokes ≤ N
  planned : S.planned ≤ N
end Ds
end Dsk
end Go.Proofs.YtmoaaimjgdbelaaGreat
