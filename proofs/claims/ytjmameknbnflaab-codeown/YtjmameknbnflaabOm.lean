/-
  CodeOwn: all that lies there, each block somebody's.
-/
import Derived.Test.YtjmameknbnflaabBo3
import Derived.Test.YtjmameknbnflaabLx
import Derived.Test.YtjmameknbnflaabOw1
namespace Go.Proofs.Ytjmameknbnflaab
open Go.RowKit
set_option linter.unusedVariables false
set_option linter.unusedSimpArgs false

/-- What stays where it is. -/
structure Cf where
  G : Nat
  rb : Nat
  ra : Option Addr
  rc : Nat
  sb : Nat
  sa : Option Addr
  sc : Nat
  X : Nat
  b : Nat
  x : Nat
  B : Nat

/-- What goes on. -/
structure Vr where
  ow : Nat → Nat
  sr : Rs
  ss : Rs
  sx : Rs
  fp : List Nat
  v : Value
  o : Option (List UInt8)
  rv : Value
  es : List En
  lv : Value
  ls : List Value
  wv : Value
  ws : List Value
  nw : Nat
  cs : List (List UInt8)

/-- A row that waits, in memory of its own. -/
def LeftIt (w : World) (base : Nat) (ow : Nat → Nat) (j : Nat) (v : Value) (ys : List UInt8) : Prop :=
  w.ownsRow base 5 1 v ys.length (bys ys) ∧ ∀ g, v.ownBlock = some g → ow g = 2000 + j
/-- What it should be. -/
def WantIt (w : World) (base : Nat) (ow : Nat → Nat) (j : Nat) (v : Value) (ys : List UInt8) : Prop :=
  ∃ a c, v = .slice a ys.length c ∧ Sl w a ys ∧ ∀ a', a = some a' → ow a'.block = 3000 + j ∧ base ≤ a'.block ∧ a'.block < w.heap.size

def bookId (i : Nat) : Prop := i = 5 ∨ i = 6 ∨ (100 ≤ i ∧ i < 1100)

/-- All of them, but those whom P names; the rows that wait from the lo-th on. -/
structure OwsP (P : Nat → Bool) (lo : Nat) (wr : World) (base : Nat) (ao0 : Option Addr) (cap0 : Nat) (xs : List UInt8) (c : Cf) (q : Vr) : Prop where
  given : P 0 = false → Sl wr (some ⟨c.G, 0, none⟩) xs ∧ q.ow c.G = 0 ∧ base ≤ c.G ∧ c.G < wr.heap.size
  r : P 1 = false → RdS wr c.rb c.ra c.rc xs q.sr ∧ q.ow c.rb = 1 ∧ base ≤ c.rb ∧ ∀ a, c.ra = some a → q.ow a.block = 1 ∧ base ≤ a.block ∧ a.block < wr.heap.size
  s : P 2 = false → RdS wr c.sb c.sa c.sc xs q.ss ∧ q.ow c.sb = 2 ∧ base ≤ c.sb ∧ ∀ a, c.sa = some a → q.ow a.block = 2 ∧ base ≤ a.block ∧ a.block < wr.heap.size
  rf : P 4 = false → RfS wr c.X ao0 cap0 xs q.sx ∧ q.ow c.X = 4 ∧ base ≤ c.X
  pr : P 3 = false → Pair wr base c.b c.x q.fp q.v q.o ∧ ∀ g, g ∈ pfp c.x q.fp q.v → q.ow g = 3
  book : (∀ i, bookId i → P i = false) → BookS wr base c.B q.rv q.es q.ow ∧ base ≤ c.B
  left : P 7 = false → wr.ownsRow base 32 1 q.lv q.ls.length q.ls ∧ ∀ g, q.lv.ownBlock = some g → q.ow g = 7
  want : P 8 = false → wr.ownsRow base 32 1 q.wv q.ws.length q.ws ∧ ∀ g, q.wv.ownBlock = some g → q.ow g = 8
  li : ∀ j, lo ≤ j → j < q.ls.length → P (2000 + j) = false → LeftIt wr base q.ow j (q.ls.getD j (.slice none 0 0)) (q.cs.getD j [])
  wi : ∀ j, j < q.nw → P (3000 + j) = false → WantIt wr base q.ow j (q.ws.getD j (.slice none 0 0)) (q.cs.getD j [])
  len : q.ls.length ≤ q.cs.length ∧ q.nw ≤ q.ws.length ∧ q.nw ≤ q.cs.length ∧ q.cs.length ≤ 900
  arg : xs ≠ [] → ∀ a, ao0 = some a → a.block < base
  size : base ≤ wr.heap.size

abbrev OwS := OwsP (fun _ => false) 0

theorem OwsP.weaken {P Q : Nat → Bool} {lo : Nat} {wr : World} {base : Nat} {ao0 : Option Addr} {cap0 : Nat} {xs : List UInt8} {c : Cf} {q : Vr} (h : OwsP P lo wr base ao0 cap0 xs c q) (hPQ : ∀ i, Q i = false → P i = false) : OwsP Q lo wr base ao0 cap0 xs c q :=
  ⟨fun e => h.given (hPQ _ e), fun e => h.r (hPQ _ e), fun e => h.s (hPQ _ e), fun e => h.rf (hPQ _ e), fun e => h.pr (hPQ _ e), fun e => h.book (fun i hi => hPQ _ (e i hi)), fun e => h.left (hPQ _ e), fun e => h.want (hPQ _ e), fun j h1 h2 e => h.li j h1 h2 (hPQ _ e), fun j h2 e => h.wi j h2 (hPQ _ e), h.len, h.arg, h.size⟩

theorem BookS.kept {l : List Nat} {w w' : World} {base B : Nat} {rv : Value} {es : List En} {ow ow' : Nat → Nat} (h : BookS w base B rv es ow) (hk : Kept l w w') (hag : ∀ g, g < w.heap.size → ow' g = ow g) (hn : ∀ g, g < w.heap.size → bookId (ow g) → g ∉ l) : BookS w' base B rv es ow' := by
  have hmany := h.many
  have hB := h.bk.lt
  refine ⟨h.bk.kept hk (hn B hB (by rw [h.oB]; exact .inl rfl)) (fun g hg => hn g (h.bk.own.lt g hg).2 (by rw [h.oR g hg]; exact .inr (.inl rfl))), fun i hi => (h.en i hi).kept hk (fun g hg => hn g ((h.en i hi).fplt g hg).2 ?_), by rw [hag _ hB]; exact h.oB, fun g hg => by rw [hag _ (h.bk.own.lt g hg).2]; exact h.oR g hg, fun i hi g hg => by rw [hag _ ((h.en i hi).fplt g hg).2]; exact h.oE i hi g hg, h.many⟩
  rw [h.oE i hi g hg]
  exact .inr (.inr (by omega))

/-- What others do turns nothing. -/
theorem OwsP.frame {P : Nat → Bool} {lo : Nat} {wr w' : World} {base : Nat} {ao0 : Option Addr} {cap0 : Nat} {xs : List UInt8} {c : Cf} {q : Vr} {l : List Nat} (h : OwsP P lo wr base ao0 cap0 xs c q) (hk : Kept l wr w') (hl : ∀ g, g ∈ l → g < wr.heap.size → P (q.ow g) = true ∧ base ≤ g) (ow' : Nat → Nat) (hag : ∀ g, g < wr.heap.size → ow' g = q.ow g) : OwsP P lo w' base ao0 cap0 xs c { q with ow := ow' } := by
  have off : ∀ g i, g < wr.heap.size → q.ow g = i → P i = false → g ∉ l := fun g i hlt e hP hm => by
    have := (hl g hm hlt).1
    rw [e, hP] at this
    cases this
  have hsz := hk.size
  refine ⟨fun e => ?_, fun e => ?_, fun e => ?_, fun e => ?_, fun e => ?_, fun e => ?_, fun e => ?_, fun e => ?_, fun j h1 h2 e => ?_, fun j h2 e => ?_, h.len, h.arg, Nat.le_trans h.size hsz⟩
  · obtain ⟨a1, a2, a3, a4⟩ := h.given e
    exact ⟨a1.kept hk (fun _ a ha => by cases ha; exact off _ _ a4 a2 e), by show ow' _ = 0; rw [hag _ a4]; exact a2, a3, by omega⟩
  · obtain ⟨a1, a2, a3, a4⟩ := h.r e
    exact ⟨a1.kept hk (off _ _ a1.lt a2 e) (fun _ a ha => off _ _ (a4 a ha).2.2 (a4 a ha).1 e), by show ow' _ = 1; rw [hag _ a1.lt]; exact a2, a3, fun a ha => ⟨by show ow' _ = 1; rw [hag _ (a4 a ha).2.2]; exact (a4 a ha).1, (a4 a ha).2.1, by have := (a4 a ha).2.2; omega⟩⟩
  · obtain ⟨a1, a2, a3, a4⟩ := h.s e
    exact ⟨a1.kept hk (off _ _ a1.lt a2 e) (fun _ a ha => off _ _ (a4 a ha).2.2 (a4 a ha).1 e), by show ow' _ = 2; rw [hag _ a1.lt]; exact a2, a3, fun a ha => ⟨by show ow' _ = 2; rw [hag _ (a4 a ha).2.2]; exact (a4 a ha).1, (a4 a ha).2.1, by have := (a4 a ha).2.2; omega⟩⟩
  · obtain ⟨a1, a2, a3⟩ := h.rf e
    refine ⟨a1.kept hk (off _ _ a1.lt a2 e) (fun hne a ha hm => ?_), by show ow' _ = 4; rw [hag _ a1.lt]; exact a2, a3⟩
    have h1 := h.arg hne a ha
    have h2 := h.size
    have := (hl _ hm (by omega)).2
    omega
  · obtain ⟨a1, a2⟩ := h.pr e
    exact ⟨a1.kept hk (fun g hg => off _ _ (a1.lts g hg).2 (a2 g hg) e), fun g hg => by show ow' _ = 3; rw [hag _ (a1.lts g hg).2]; exact a2 g hg⟩
  · obtain ⟨a1, a2⟩ := h.book e
    exact ⟨a1.kept hk hag (fun g hg hb => off _ _ hg rfl (e _ hb)), a2⟩
  · obtain ⟨a1, a2⟩ := h.left e
    exact ⟨Kept.nil_own a1 hk (fun g hg => off _ _ (a1.lt g hg).2 (a2 g hg) e), fun g hg => by show ow' _ = 7; rw [hag _ (a1.lt g hg).2]; exact a2 g hg⟩
  · obtain ⟨a1, a2⟩ := h.want e
    exact ⟨Kept.nil_own a1 hk (fun g hg => off _ _ (a1.lt g hg).2 (a2 g hg) e), fun g hg => by show ow' _ = 8; rw [hag _ (a1.lt g hg).2]; exact a2 g hg⟩
  · obtain ⟨a1, a2⟩ := h.li j h1 h2 e
    exact ⟨Kept.nil_own a1 hk (fun g hg => off _ _ (a1.lt g hg).2 (a2 g hg) e), fun g hg => by show ow' _ = _; rw [hag _ (a1.lt g hg).2]; exact a2 g hg⟩
  · obtain ⟨a, c', a1, a2, a3⟩ := h.wi j h2 e
    exact ⟨a, c', a1, a2.kept hk (fun _ a' ha => off _ _ (a3 a' ha).2.2 (a3 a' ha).1 e), fun a' ha => ⟨by show ow' _ = _; rw [hag _ (a3 a' ha).2.2]; exact (a3 a' ha).1, (a3 a' ha).2.1, by have := (a3 a' ha).2.2; omega⟩⟩

/-- New blocks are somebody's. -/
def claimed (w : World) (ow : Nat → Nat) (i : Nat) : Nat → Nat := fun g => if g < w.heap.size then ow g else i
theorem claimed_old {w : World} {ow : Nat → Nat} {i g : Nat} (h : g < w.heap.size) : claimed w ow i g = ow g := by simp [claimed, h]
theorem claimed_new {w : World} {ow : Nat → Nat} {i g : Nat} (h : w.heap.size ≤ g) : claimed w ow i g = i := by simp [claimed, Nat.not_lt.2 h]

theorem nobook {i : Nat} (h : bookId i) : i ≠ 0 ∧ i ≠ 1 ∧ i ≠ 2 ∧ i ≠ 3 ∧ i ≠ 4 ∧ i ≠ 7 ∧ i ≠ 8 ∧ i < 1100 := by unfold bookId at h; omega

section
variable {wr w' : World} {base : Nat} {ao0 : Option Addr} {cap0 : Nat} {xs : List UInt8} {c : Cf} {q : Vr} {lo : Nat}

/-- Nothing is turned; new blocks are i's. -/
theorem OwsP.fresh {P : Nat → Bool} (h : OwsP P lo wr base ao0 cap0 xs c q) (hk : Kept [] wr w') (i : Nat) : OwsP P lo w' base ao0 cap0 xs c { q with ow := claimed wr q.ow i } := h.frame hk (by simp) _ (fun g hg => claimed_old hg)
theorem OwsP.quiet {P : Nat → Bool} (h : OwsP P lo wr base ao0 cap0 xs c q) (hk : Kept [] wr w') : OwsP P lo w' base ao0 cap0 xs c q := h.frame hk (by simp) q.ow (fun _ _ => rfl)

/-- One more row is told of. -/
theorem OwS.told (h : OwsP (fun _ => false) lo wr base ao0 cap0 xs c q) (ys : List UInt8) (hl : q.cs.length < 900) : OwsP (fun _ => false) lo wr base ao0 cap0 xs c { q with cs := q.cs ++ [ys] } := by
  have hlen := h.len
  have e : ∀ j, j < q.cs.length → (q.cs ++ [ys]).getD j [] = q.cs.getD j [] := fun j hj => by simp [List.getElem?_append_left hj]
  exact ⟨h.given, h.r, h.s, h.rf, h.pr, h.book, h.left, h.want, fun j h1 h2 h3 => by
    have := h.li j h1 h2 h3
    show LeftIt _ _ _ _ _ ((q.cs ++ [ys]).getD j [])
    rw [e j (by have : j < q.ls.length := h2; omega)]; exact this, fun j h2 h3 => by
    have := h.wi j h2 h3
    show WantIt _ _ _ _ _ ((q.cs ++ [ys]).getD j [])
    rw [e j (by have : j < q.nw := h2; omega)]; exact this, by simp; omega, h.arg, h.size⟩

/-- The writer and what was written go on. -/
theorem OwS.pair (h : OwsP (fun _ => false) lo wr base ao0 cap0 xs c q) {fp' : List Nat} {v' : Value} {o' : Option (List UInt8)} (hp : Pair w' base c.b c.x fp' v' o') (hk : Kept (pfp c.x q.fp q.v) wr w') (hn : ∀ g, g ∈ pfp c.x fp' v' → g ∈ pfp c.x q.fp q.v ∨ wr.heap.size ≤ g) :
    OwsP (fun _ => false) lo w' base ao0 cap0 xs c { q with ow := claimed wr q.ow 3, fp := fp', v := v', o := o' } := by
  obtain ⟨a1, a2⟩ := h.pr rfl
  have f := (h.weaken (Q := fun i => i == 3) (fun _ _ => rfl)).frame hk (fun g hg hlt => by rw [a2 g hg]; exact ⟨rfl, (a1.lts g hg).1⟩) (claimed wr q.ow 3) (fun g hg => claimed_old hg)
  refine ⟨fun _ => f.given rfl, fun _ => f.r rfl, fun _ => f.s rfl, fun _ => f.rf rfl, fun _ => ⟨hp, fun g hg => ?_⟩, fun _ => f.book (fun i hi => by have := nobook hi; simp; omega), fun _ => f.left rfl, fun _ => f.want rfl, fun j h1 h2 _ => f.li j h1 h2 (by simp; omega), fun j h2 _ => f.wi j h2 (by simp; omega), f.len, f.arg, f.size⟩
  rcases hn g hg with h1 | h1
  · show claimed wr q.ow 3 g = 3
    rw [claimed_old (a1.lts g h1).2]
    exact a2 g h1
  · exact claimed_new h1

/-- The reader r goes on. -/
theorem OwS.rgo (h : OwsP (fun _ => false) lo wr base ao0 cap0 xs c q) (hk : Kept [c.rb] wr w') (i : Nat) {st' : Rs} (hr : RdS w' c.rb c.ra c.rc xs st') : OwsP (fun _ => false) lo w' base ao0 cap0 xs c { q with ow := claimed wr q.ow i, sr := st' } := by
  obtain ⟨a1, a2, a3, a4⟩ := h.r rfl
  have f := (h.weaken (Q := fun i => i == 1) (fun _ _ => rfl)).frame hk (fun g hg hlt => by simp at hg; rw [hg, a2]; exact ⟨rfl, a3⟩) (claimed wr q.ow i) (fun g hg => claimed_old hg)
  exact ⟨fun _ => f.given rfl, fun _ => ⟨hr, by show claimed _ _ _ _ = 1; rw [claimed_old a1.lt]; exact a2, a3, fun a ha => ⟨by show claimed _ _ _ _ = 1; rw [claimed_old (a4 a ha).2.2]; exact (a4 a ha).1, (a4 a ha).2.1, by have := (a4 a ha).2.2; have := hk.size; omega⟩⟩, fun _ => f.s rfl, fun _ => f.rf rfl, fun _ => f.pr rfl, fun _ => f.book (fun i hi => by have := nobook hi; simp; omega), fun _ => f.left rfl, fun _ => f.want rfl, fun j h1 h2 _ => f.li j h1 h2 (by simp; omega), fun j h2 _ => f.wi j h2 (by simp; omega), f.len, f.arg, f.size⟩

/-- The reader s goes on. -/
theorem OwS.sgo (h : OwsP (fun _ => false) lo wr base ao0 cap0 xs c q) (hk : Kept [c.sb] wr w') (i : Nat) {st' : Rs} (hr : RdS w' c.sb c.sa c.sc xs st') : OwsP (fun _ => false) lo w' base ao0 cap0 xs c { q with ow := claimed wr q.ow i, ss := st' } := by
  obtain ⟨a1, a2, a3, a4⟩ := h.s rfl
  have f := (h.weaken (Q := fun i => i == 2) (fun _ _ => rfl)).frame hk (fun g hg hlt => by simp at hg; rw [hg, a2]; exact ⟨rfl, a3⟩) (claimed wr q.ow i) (fun g hg => claimed_old hg)
  exact ⟨fun _ => f.given rfl, fun _ => f.r rfl, fun _ => ⟨hr, by show claimed _ _ _ _ = 2; rw [claimed_old a1.lt]; exact a2, a3, fun a ha => ⟨by show claimed _ _ _ _ = 2; rw [claimed_old (a4 a ha).2.2]; exact (a4 a ha).1, (a4 a ha).2.1, by have := (a4 a ha).2.2; have := hk.size; omega⟩⟩, fun _ => f.rf rfl, fun _ => f.pr rfl, fun _ => f.book (fun i hi => by have := nobook hi; simp; omega), fun _ => f.left rfl, fun _ => f.want rfl, fun j h1 h2 _ => f.li j h1 h2 (by simp; omega), fun j h2 _ => f.wi j h2 (by simp; omega), f.len, f.arg, f.size⟩

/-- The document's reader goes on. -/
theorem OwS.xgo (h : OwsP (fun _ => false) lo wr base ao0 cap0 xs c q) (hk : Kept [c.X] wr w') (i : Nat) {st' : Rs} (hr : RfS w' c.X ao0 cap0 xs st') : OwsP (fun _ => false) lo w' base ao0 cap0 xs c { q with ow := claimed wr q.ow i, sx := st' } := by
  obtain ⟨a1, a2, a3⟩ := h.rf rfl
  have f := (h.weaken (Q := fun i => i == 4) (fun _ _ => rfl)).frame hk (fun g hg hlt => by simp at hg; rw [hg, a2]; exact ⟨rfl, a3⟩) (claimed wr q.ow i) (fun g hg => claimed_old hg)
  exact ⟨fun _ => f.given rfl, fun _ => f.r rfl, fun _ => f.s rfl, fun _ => ⟨hr, by show claimed _ _ _ _ = 4; rw [claimed_old a1.lt]; exact a2, a3⟩, fun _ => f.pr rfl, fun _ => f.book (fun i hi => by have := nobook hi; simp; omega), fun _ => f.left rfl, fun _ => f.want rfl, fun j h1 h2 _ => f.li j h1 h2 (by simp; omega), fun j h2 _ => f.wi j h2 (by simp; omega), f.len, f.arg, f.size⟩

/-- r and the document's reader beside one another. -/
theorem OwS.two (h : OwsP (fun _ => false) lo wr base ao0 cap0 xs c q) (he : q.sr = q.sx) : Two wr c.rb c.X c.ra ao0 c.rc cap0 xs q.sx := by
  obtain ⟨a1, a2, a3, a4⟩ := h.r rfl
  obtain ⟨b1, b2, b3⟩ := h.rf rfl
  refine ⟨he ▸ a1, b1, fun e => by rw [e, b2] at a2; omega, fun _ a ha e => ?_, fun hne a ha e => ?_⟩
  · have := (a4 a ha).1
    rw [e, b2] at this
    omega
  · have := h.arg hne a ha
    omega

/-- read. -/
theorem OwS.rxgo (h : OwsP (fun _ => false) lo wr base ao0 cap0 xs c q) (hk : Kept [c.rb, c.X] wr w') {st' : Rs} (ht : Two w' c.rb c.X c.ra ao0 c.rc cap0 xs st') : OwsP (fun _ => false) lo w' base ao0 cap0 xs c { q with sr := st', sx := st' } := by
  obtain ⟨a1, a2, a3, a4⟩ := h.r rfl
  obtain ⟨b1, b2, b3⟩ := h.rf rfl
  have f := (h.weaken (Q := fun i => i == 1 || i == 4) (fun _ _ => rfl)).frame hk (fun g hg hlt => by
    simp at hg
    rcases hg with rfl | rfl
    · rw [a2]; exact ⟨rfl, a3⟩
    · rw [b2]; exact ⟨rfl, b3⟩) q.ow (fun g hg => rfl)
  exact ⟨fun _ => f.given rfl, fun _ => ⟨ht.rd, a2, a3, fun a ha => ⟨(a4 a ha).1, (a4 a ha).2.1, by have := (a4 a ha).2.2; have := hk.size; omega⟩⟩, fun _ => f.s rfl, fun _ => ⟨ht.rf, b2, b3⟩, fun _ => f.pr rfl, fun _ => f.book (fun i hi => by have := nobook hi; simp; omega), fun _ => f.left rfl, fun _ => f.want rfl, fun j h1 h2 _ => f.li j h1 h2 (by simp; omega), fun j h2 _ => f.wi j h2 (by simp; omega), f.len, f.arg, f.size⟩

/-- A row is taken into the book. -/
theorem OwS.took (h : OwsP (fun _ => false) lo wr base ao0 cap0 xs c q) {ao : Option Addr} {n cap : Nat} {ys : List UInt8} (hv : wr.ownsRow base 5 1 (.slice ao n cap) n (bys ys)) (ho : ∀ g, (Value.slice ao n cap).ownBlock = some g → q.ow g = 100 + q.es.length) (hm : q.es.length < 1000) (ht : TakeEnd wr w' base c.B q.rv q.es ao n cap) :
    ∃ rv', OwsP (fun _ => false) lo w' base ao0 cap0 xs c { q with ow := claimed wr q.ow 6, rv := rv', es := q.es ++ [⟨ao, n, cap, ao, n, cap, markOf q.es.length⟩] } := by
  obtain ⟨a1, a2⟩ := h.book (fun _ _ => rfl)
  obtain ⟨rv', t1, t2, t3, t4⟩ := ht
  have hsz := t3.size
  have hB := a1.bk.lt
  have hin : ∀ g, g ∈ c.B :: q.rv.ownBlock.toList ++ (Value.slice ao n cap).ownBlock.toList → (q.ow g = 5 ∨ q.ow g = 6 ∨ q.ow g = 100 + q.es.length) ∧ base ≤ g ∧ g < wr.heap.size := fun g hg => by
    simp only [List.cons_append, List.mem_cons, List.mem_append, Option.mem_toList] at hg
    rcases hg with rfl | hg | hg
    · exact ⟨.inl a1.oB, a2, hB⟩
    · exact ⟨.inr (.inl (a1.oR g hg)), a1.bk.own.lt g hg⟩
    · exact ⟨.inr (.inr (ho g hg)), hv.lt g hg⟩
  have f := (h.weaken (Q := fun i => decide (i = 5 ∨ i = 6 ∨ (100 ≤ i ∧ i < 1100))) (fun _ _ => rfl)).frame t3 (fun g hg hlt => ⟨by have := (hin g hg).1; simp; omega, (hin g hg).2.1⟩) (claimed wr q.ow 6) (fun g hg => claimed_old hg)
  have hmk : (markOf q.es.length).toNat ≤ 199 := by rw [markOf_toNat]; omega
  refine ⟨rv', ⟨fun _ => f.given (by simp), fun _ => f.r (by simp), fun _ => f.s (by simp), fun _ => f.rf (by simp), fun _ => f.pr (by simp), fun _ => ⟨⟨t1, fun i hi => ?_, ?_, fun g hg => ?_, fun i hi g hg => ?_, by simp; omega⟩, a2⟩, fun _ => f.left (by simp), fun _ => f.want (by simp), fun j h1 h2 _ => f.li j h1 h2 (by simp; omega), fun j h2 _ => f.wi j h2 (by simp; omega), f.len, f.arg, f.size⟩⟩
  · by_cases hil : i < q.es.length
    · have e : (q.es ++ [(⟨ao, n, cap, ao, n, cap, markOf q.es.length⟩ : En)]).getD i en0 = q.es.getD i en0 := by simp [List.getElem?_append_left hil]
      show EnO w' base ((q.es ++ [(⟨ao, n, cap, ao, n, cap, markOf q.es.length⟩ : En)]).getD i en0)
      rw [e]
      refine (a1.en i hil).kept t3 (fun g hg hm' => ?_)
      have h1 := a1.oE i hil g hg
      have h2 := (hin g hm').1
      omega
    · have hi' : i < (q.es ++ [(⟨ao, n, cap, ao, n, cap, markOf q.es.length⟩ : En)]).length := hi
      have hie : i = q.es.length := by simp at hi'; omega
      have e : (q.es ++ [(⟨ao, n, cap, ao, n, cap, markOf q.es.length⟩ : En)]).getD i en0 = ⟨ao, n, cap, ao, n, cap, markOf q.es.length⟩ := by rw [hie]; simp
      show EnO w' base ((q.es ++ [(⟨ao, n, cap, ao, n, cap, markOf q.es.length⟩ : En)]).getD i en0)
      rw [e]
      refine ⟨own_sl2 t2, ?_, Nat.le_refl _, hmk, fun a ha => ?_, fun a ha => ?_⟩
      · show World.ownsRow _ base _ 1 (.slice ao n cap) n (bys (En.row ⟨ao, n, cap, ao, n, cap, markOf q.es.length⟩))
        have : En.row ⟨ao, n, cap, ao, n, cap, markOf q.es.length⟩ = List.replicate n (markOf q.es.length) := by simp [En.row]
        rw [this]
        exact t2
      · have ha' : ao = some a := ha
        rcases t2.2 with ⟨e1, _⟩ | ⟨g', cap', cur, e1, _⟩
        · cases e1; cases ha'
        · cases e1; cases ha'; rfl
      · have ha' : ao = some a := ha
        exact t2.lt a.block ((ownBlock_slice t2).2 (mem_oblk.2 ⟨a, ha', rfl⟩))
  · show claimed wr q.ow 6 c.B = 5
    rw [claimed_old hB]
    exact a1.oB
  · show claimed wr q.ow 6 g = 6
    rcases t4 with t4 | t4
    · have hg' : q.rv.ownBlock = some g := t4 ▸ hg
      rw [claimed_old (a1.bk.own.lt g hg').2]
      exact a1.oR g hg'
    · exact claimed_new (t4 g hg)
  · show claimed wr q.ow 6 g = 100 + i
    by_cases hil : i < q.es.length
    · have e : (q.es ++ [(⟨ao, n, cap, ao, n, cap, markOf q.es.length⟩ : En)]).getD i en0 = q.es.getD i en0 := by simp [List.getElem?_append_left hil]
      have hg' : g ∈ ((q.es ++ [(⟨ao, n, cap, ao, n, cap, markOf q.es.length⟩ : En)]).getD i en0).fp := hg
      rw [e] at hg'
      rw [claimed_old ((a1.en i hil).fplt g hg').2]
      exact a1.oE i hil g hg'
    · have hi' : i < (q.es ++ [(⟨ao, n, cap, ao, n, cap, markOf q.es.length⟩ : En)]).length := hi
      have hie : i = q.es.length := by simp at hi'; omega
      have e : (q.es ++ [(⟨ao, n, cap, ao, n, cap, markOf q.es.length⟩ : En)]).getD i en0 = ⟨ao, n, cap, ao, n, cap, markOf q.es.length⟩ := by rw [hie]; simp
      have hg' : g ∈ ((q.es ++ [(⟨ao, n, cap, ao, n, cap, markOf q.es.length⟩ : En)]).getD i en0).fp := hg
      rw [e] at hg'
      have hg2 : g ∈ oblk ao := by simpa [En.fp] using hg'
      have hg3 := (ownBlock_slice hv).2 hg2
      rw [claimed_old (hv.lt g hg3).2, ho g hg3, hie]

/-- One more row waits. -/
theorem OwS.lapp (h : OwsP (fun _ => false) lo wr base ao0 cap0 xs c q) {lv' v2 : Value} (ho : w'.ownsRow base 32 1 lv' (q.ls.length + 1) (q.ls ++ [v2])) (hk : Kept q.lv.ownBlock.toList wr w') (hat : lv'.ownBlock = q.lv.ownBlock ∨ ∀ g, lv'.ownBlock = some g → wr.heap.size ≤ g)
    (hv : wr.ownsRow base 5 1 v2 (q.cs.getD q.ls.length []).length (bys (q.cs.getD q.ls.length []))) (hj : ∀ g, v2.ownBlock = some g → q.ow g = 2000 + q.ls.length) (hlen : q.ls.length < q.cs.length) :
    OwsP (fun _ => false) lo w' base ao0 cap0 xs c { q with ow := claimed wr q.ow 7, lv := lv', ls := q.ls ++ [v2] } := by
  obtain ⟨a1, a2⟩ := h.left rfl
  have hl := h.len
  have f := (h.weaken (Q := fun i => i == 7) (fun _ _ => rfl)).frame hk (fun g hg hlt => by rw [Option.mem_toList] at hg; rw [a2 g hg]; exact ⟨rfl, (a1.lt g hg).1⟩) (claimed wr q.ow 7) (fun g hg => claimed_old hg)
  refine ⟨fun _ => f.given rfl, fun _ => f.r rfl, fun _ => f.s rfl, fun _ => f.rf rfl, fun _ => f.pr rfl, fun _ => f.book (fun i hi => by have := nobook hi; simp; omega), fun _ => ⟨by show World.ownsRow _ _ _ _ _ (q.ls ++ [v2]).length _; rw [List.length_append]; exact ho, fun g hg => ?_⟩, fun _ => f.want rfl, fun j h1 h2 _ => ?_, fun j h2 _ => f.wi j h2 (by simp; omega), ⟨by show (q.ls ++ [v2]).length ≤ _; rw [List.length_append]; exact hlen, hl.2⟩, f.arg, f.size⟩
  · show claimed wr q.ow 7 g = 7
    rcases hat with t4 | t4
    · have hg' : q.lv.ownBlock = some g := t4 ▸ hg
      rw [claimed_old (a1.lt g hg').2]
      exact a2 g hg'
    · exact claimed_new (t4 g hg)
  · have h2' : j < (q.ls ++ [v2]).length := h2
    by_cases hjl : j < q.ls.length
    · have e : (q.ls ++ [v2]).getD j (.slice none 0 0) = q.ls.getD j (.slice none 0 0) := by simp [List.getElem?_append_left hjl]
      show LeftIt w' base (claimed wr q.ow 7) j ((q.ls ++ [v2]).getD j (.slice none 0 0)) (q.cs.getD j [])
      rw [e]
      exact f.li j h1 hjl (by simp; omega)
    · have hje : j = q.ls.length := by simp at h2'; omega
      have e : (q.ls ++ [v2]).getD j (.slice none 0 0) = v2 := by rw [hje]; simp
      show LeftIt w' base (claimed wr q.ow 7) j ((q.ls ++ [v2]).getD j (.slice none 0 0)) (q.cs.getD j [])
      rw [e, hje]
      refine ⟨Kept.nil_own hv hk (fun g hg hm => ?_), fun g hg => by rw [claimed_old (hv.lt g hg).2]; exact hj g hg⟩
      rw [Option.mem_toList] at hm
      have h3 := a2 g hm
      have h4 := hj g hg
      omega

/-- One more row of what should be: nothing is said of it yet. -/
theorem OwS.wapp (h : OwsP (fun _ => false) lo wr base ao0 cap0 xs c q) {wv' v2 : Value} (ho : w'.ownsRow base 32 1 wv' (q.ws.length + 1) (q.ws ++ [v2])) (hk : Kept q.wv.ownBlock.toList wr w') (hat : wv'.ownBlock = q.wv.ownBlock ∨ ∀ g, wv'.ownBlock = some g → wr.heap.size ≤ g) :
    OwsP (fun _ => false) lo w' base ao0 cap0 xs c { q with ow := claimed wr q.ow 8, wv := wv', ws := q.ws ++ [v2] } := by
  obtain ⟨a1, a2⟩ := h.want rfl
  have hl := h.len
  have f := (h.weaken (Q := fun i => i == 8) (fun _ _ => rfl)).frame hk (fun g hg hlt => by rw [Option.mem_toList] at hg; rw [a2 g hg]; exact ⟨rfl, (a1.lt g hg).1⟩) (claimed wr q.ow 8) (fun g hg => claimed_old hg)
  refine ⟨fun _ => f.given rfl, fun _ => f.r rfl, fun _ => f.s rfl, fun _ => f.rf rfl, fun _ => f.pr rfl, fun _ => f.book (fun i hi => by have := nobook hi; simp; omega), fun _ => f.left rfl, fun _ => ⟨by show World.ownsRow _ _ _ _ _ (q.ws ++ [v2]).length _; rw [List.length_append]; exact ho, fun g hg => ?_⟩, fun j h1 h2 _ => f.li j h1 h2 (by simp; omega), fun j h2 _ => ?_, ⟨hl.1, by show q.nw ≤ (q.ws ++ [v2]).length; rw [List.length_append]; omega, hl.2.2⟩, f.arg, f.size⟩
  · show claimed wr q.ow 8 g = 8
    rcases hat with t4 | t4
    · have hg' : q.wv.ownBlock = some g := t4 ▸ hg
      rw [claimed_old (a1.lt g hg').2]
      exact a2 g hg'
    · exact claimed_new (t4 g hg)
  · have h2' : j < q.nw := h2
    have e : (q.ws ++ [v2]).getD j (.slice none 0 0) = q.ws.getD j (.slice none 0 0) := by simp [List.getElem?_append_left (show j < q.ws.length by omega)]
    show WantIt w' base (claimed wr q.ow 8) j ((q.ws ++ [v2]).getD j (.slice none 0 0)) (q.cs.getD j [])
    rw [e]
    exact f.wi j h2' (by simp; omega)

/-- What was said is so. -/
theorem OwS.wok (h : OwsP (fun _ => false) lo wr base ao0 cap0 xs c q) (hn : q.nw < q.ws.length) (hn2 : q.nw < q.cs.length) (hw : WantIt wr base q.ow q.nw (q.ws.getD q.nw (.slice none 0 0)) (q.cs.getD q.nw [])) : OwsP (fun _ => false) lo wr base ao0 cap0 xs c { q with nw := q.nw + 1 } :=
  ⟨h.given, h.r, h.s, h.rf, h.pr, h.book, h.left, h.want, h.li, fun j h2 h3 => by
    have h2' : j < q.nw + 1 := h2
    by_cases hj : j < q.nw
    · exact h.wi j hj h3
    · obtain rfl : j = q.nw := by omega
      exact hw, ⟨h.len.1, hn, hn2, h.len.2.2.2⟩, h.arg, h.size⟩

/-- A row of what should be is written. -/
theorem OwS.wset (h : OwsP (fun _ => false) lo wr base ao0 cap0 xs c q) {wg wn wc j : Nat} {nv : Value} (hwv : q.wv = .slice (some ⟨wg, 0, none⟩) wn wc) (hj : j < q.ws.length) (hjn : q.nw ≤ j) : OwsP (fun _ => false) lo (wr.setCell ⟨wg, j, none⟩ nv) base ao0 cap0 xs c { q with ws := q.ws.set j nv } := by
  obtain ⟨a1, a2⟩ := h.want rfl
  have hl := h.len
  have hob : q.wv.ownBlock = some wg := by rw [hwv]; rfl
  have f := (h.weaken (Q := fun i => i == 8) (fun _ _ => rfl)).frame ((Kept.refl [wg] wr).setCell (p := ⟨wg, j, none⟩) (by simp) nv) (fun g hg hlt => by simp at hg; subst hg; rw [a2 g hob]; exact ⟨rfl, (a1.lt g hob).1⟩) q.ow (fun g hg => rfl)
  refine ⟨fun _ => f.given rfl, fun _ => f.r rfl, fun _ => f.s rfl, fun _ => f.rf rfl, fun _ => f.pr rfl, fun _ => f.book (fun i hi => by have := nobook hi; simp; omega), fun _ => f.left rfl, fun _ => ⟨?_, a2⟩, fun j h1 h2 _ => f.li j h1 h2 (by simp; omega), fun i h2 _ => ?_, ⟨hl.1, by show q.nw ≤ (q.ws.set j nv).length; rw [List.length_set]; exact hl.2.1, hl.2.2⟩, f.arg, f.size⟩
  · show World.ownsRow _ base _ 1 q.wv (q.ws.set j nv).length (q.ws.set j nv)
    have h1 := a1
    obtain ⟨wo, wc', hsh⟩ := own_shape a1
    rw [hwv] at hsh h1 ⊢
    cases hsh
    rw [List.length_set]
    exact own_setc h1 hj
  · have h2' : i < q.nw := h2
    have e : (q.ws.set j nv).getD i (.slice none 0 0) = q.ws.getD i (.slice none 0 0) := by simp [List.getElem?_set_ne (show j ≠ i by omega)]
    show WantIt _ base q.ow i ((q.ws.set j nv).getD i (.slice none 0 0)) (q.cs.getD i [])
    rw [e]
    exact f.wi i h2' (by simp; omega)

end

/-- put and write with a desk of its own. -/
theorem pair_step2 {w w1 w2 : World} {base b x : Nat} {fp : List Nat} {v : Value} {o o' : Option (List UInt8)} (h : Pair w base b x fp v o) (hp : LpEnd w w1 x base v o') (hw : LwEnd (w1.alloc (.cells #[.slice none 0 0] 39)) w2 (some ⟨b, 0, none⟩) fp o' w1.heap.size none) (hb : base ≤ w.heap.size) :
    ∃ fp' v', Pair w2 base b x fp' v' o' ∧ Kept (pfp x fp v) w w2 ∧ (∀ g, g ∈ pfp x fp' v' → g ∈ pfp x fp v ∨ w.heap.size ≤ g) := by
  have hlt := h.lts
  obtain ⟨v', hv, hk, hn⟩ := hp
  obtain ⟨fp', bo', R', hwd, hk2, hs, hbo⟩ := hw
  have hsz := hk.size
  have hx := h.wd.lt
  have hA : (w1.alloc (.cells #[.slice none 0 0] 39)).heap.size = w1.heap.size + 1 := by simp
  have hkA : Kept [] w1 (w1.alloc (.cells #[.slice none 0 0] 39)) := (Kept.refl [] w1).alloc _
  have hownv : ∀ k, v'.ownBlock = some k → k < w1.heap.size := fun k hk' => by
    obtain ⟨zs, ho, _⟩ := hv.own
    exact (ho.lt k hk').2
  have hfx : x ∉ fp' := fun hm => by
    rcases hs x hm with h1 | h1
    · exact h.nx h1
    · omega
  have hv'fp : ∀ k, v'.ownBlock = some k → k ∉ fp := fun k hk' hm => by
    rcases hn k hk' with h1 | h1
    · exact h.nv k h1 hm
    · have := (hlt k (mem_pfp.2 (.inl hm))).2; omega
  have hv'fp' : ∀ k, v'.ownBlock = some k → k ∉ fp' := fun k hk' hm => by
    rcases hs k hm with h1 | h1
    · exact hv'fp k hk' h1
    · have := hownv k hk'; omega
  refine ⟨fp', v', ⟨hwd.wr, (hv.kept hkA (by simp) (by simp)).kept hk2 ?_ ?_, hfx, hv'fp', fun g hg => ?_, h.gx⟩, ?_, fun g hg => ?_⟩
  · simp only [List.mem_append, mem_dkfp]
    rintro (h1 | h1 | h1)
    · exact h.nx h1
    · omega
    · cases h1
  · intro k hk'
    simp only [List.mem_append, mem_dkfp]
    rintro (h1 | h1 | h1)
    · exact hv'fp k hk' h1
    · have := hownv k hk'; omega
    · cases h1
  · rcases hs g hg with h1 | h1
    · exact h.ge g h1
    · omega
  · refine ((hk.mono (l2 := pfp x fp v) (fun i hi _ => ?_)).trans hkA (by simp)).trans hk2 (fun i hi hlt' => ?_)
    · simp at hi
      exact mem_pfp.2 (.inr hi)
    · simp only [List.mem_append, mem_dkfp] at hi
      rcases hi with h1 | h1 | h1
      · exact mem_pfp.2 (.inl h1)
      · omega
      · cases h1
  · rcases mem_pfp.1 hg with h1 | h1 | h1
    · rcases hs g h1 with h2 | h2
      · exact .inl (mem_pfp.2 (.inl h2))
      · exact .inr (by omega)
    · exact .inl (mem_pfp.2 (.inr (.inl h1)))
    · rcases hn g h1 with h2 | h2
      · exact .inl (mem_pfp.2 (.inr (.inr h2)))
      · exact .inr h2

/-- Between put and write: a desk beside the writer. -/
theorem pair_desk {w w1 : World} {base b x : Nat} {fp : List Nat} {v : Value} {o o' : Option (List UInt8)} (h : Pair w base b x fp v o) (hp : LpEnd w w1 x base v o') : WD (w1.alloc (.cells #[.slice none 0 0] 39)) (some ⟨b, 0, none⟩) fp o w1.heap.size none [] := by
  obtain ⟨v', hv, hk, hn⟩ := hp
  have hw : WrS w1 (some ⟨b, 0, none⟩) fp o := h.wr.kept hk (fun g hg hm => by
    simp at hm
    rcases hm with rfl | hm
    · exact h.nx hg
    · exact h.nv _ hm hg)
  exact ⟨hw.kept ((Kept.refl [] w1).alloc _) (by simp), dk_zero w1, fun hm => by have := hw.lts (by simp) _ hm; omega, by simp, by simp⟩

end Go.Proofs.Ytjmameknbnflaab
