import Derived.Test.YtngaimahhgmciabGreatDoorK9kv
import Derived.Test.YtngaimahhgmciabGreatDoorQ9cv
import Derived.ProofKit
import Derived.OpenShut
import Derived.Deep.Slices
import Derived.Lib.SmallJoins
import Derived.Deep.MidRow
import Derived.Test.YtngaimahhgmciabGreatDoorK9nv
namespace Go.Proofs.YtngaimahhgmciabGreatDoor
section
open Go.ChangeShapes Go.WideShapes Go.ChangeAt Go.RowKit Go.Deep Go.Joins
set_option linter.unusedVariables false
set_option linter.unusedSimpArgs false

/-- An item as it came in. -/
structure It9 where
  id : List UInt8
  ao : Option Addr
  n : Nat
  cap : Nat
  bs : List UInt8
  code : Int
  wrp : Bool
  hi : id.length = 32
def it0 : It9 := ⟨List.replicate 32 0, none, 0, 0, [], 0, false, rfl⟩
instance : Inhabited It9 := ⟨it0⟩
def It9.dv (x : It9) : Value := .slice x.ao x.n x.cap
def It9.cells (x : It9) : List Value := bys x.id ++ [x.dv, .int .i64 x.code, .bool x.wrp]
theorem It9.len (x : It9) : x.cells.length = 35 := by simp [It9.cells, bys_length, x.hi]
structure ItIn (w : World) (x : It9) : Prop where
  inb : InB w x.ao x.n x.cap x.bs
  wf : (Lit.int .i64 x.code).wf = true
/-- Items that came in, wherever they lie. -/
def ItsAt (w : World) (lo : Option Addr) (L : List It9) : Prop := ∀ i, i < L.length → (∃ b off, lo = some ⟨b, off, none⟩ ∧ w.rangeAt b (off + i * 35) (L.getD i it0).cells) ∧ ItIn w (L.getD i it0)
theorem InB.kept9 {w w' : World} {ao : Option Addr} {n cap : Nat} {xs : List UInt8} (h : InB w ao n cap xs) (hk : Kept [] w w') : InB w' ao n cap xs := ⟨h.len, h.le, h.max, h.sl.kept hk (by simp), h.nil, h.spot⟩
theorem ItsAt.kept {w w' : World} {lo : Option Addr} {L : List It9} (h : ItsAt w lo L) (hk : Kept [] w w') : ItsAt w' lo L := fun i hi => by
  obtain ⟨⟨b, off, e, hr⟩, ho⟩ := h i hi
  exact ⟨⟨b, off, e, fun j u hu => hk.cellOf (hr j u hu) (by simp)⟩, ⟨ho.inb.kept9 hk, ho.wf⟩⟩

section
variable {H : Type} {enc : TypeId × Value → H} {w : World}
theorem weights_all9 {P : Program} {e : TypeId} {l : List (DataW H)} {d : DataW H} (h : d ∈ l) {n : Nat} (hn : n ∈ d.weights P e) : n ∈ DataW.weightsAll P e l := by
  induction l with
  | nil => simp at h
  | cons x l ih =>
    simp only [DataW.weightsAll, List.mem_append]
    simp only [List.mem_cons] at h
    rcases h with rfl | h
    · exact .inl hn
    · exact .inr (ih h)
set_option maxRecDepth 100000 in
theorem open_id9 {n : Nat} {cs : List Value} {x : DataW H × List MemPlace} (h : DataW.trod enc Tryz.prog w 0 (fun _ => true) true n 36 cs = some x) : ∃ L : List UInt8, L.length = 32 ∧ cs = bys L := by
  have hc1 : Tryz.prog.cellsOf 5 = 1 := by kernel_rfl
  have hc : Tryz.prog.cellsOf 36 = 32 := by kernel_rfl
  obtain ⟨xs, m, _, _, hlen, hl, hx⟩ := DataW.trod_array Tryz.underlying36 h
  have hcs : cs.length = 32 := by first | (rw [hc] at hlen; exact hlen) | (simpa [hc, hc1] using hlen)
  have hz : ∀ i, i < 32 → ∃ u : UInt8, cs[i]? = some (.int .u8 u.toNat) := by
    intro i hi
    have h1 := hx i hi
    rw [hc1, Nat.mul_one, List.getElem?_eq_getElem (by omega)] at h1
    obtain ⟨z, e, _, wz⟩ := DataW.trod_int Tryz.underlying5 h1
    have hb := bounds_u8 wz
    refine ⟨UInt8.ofNat z.toNat, ?_⟩
    have h2 : (cs.drop i).take 1 = [cs[i]'(by omega)] := by
      rw [List.drop_eq_getElem_cons (by omega)]
      rfl
    rw [h2] at e
    rw [List.getElem?_eq_getElem (by omega)]
    injection e with e _
    rw [e, UInt8.toNat_ofNat', Nat.mod_eq_of_lt (by omega)]
    congr 2
    omega
  obtain ⟨f, hf⟩ := choose_lt (α := UInt8) hz
  refine ⟨(List.range 32).map f, by simp, ?_⟩
  apply List.ext_getElem?
  intro i
  by_cases hi : i < 32
  · rw [hf i hi]
    simp [bys, hi]
  · rw [List.getElem?_eq_none (by omega), List.getElem?_eq_none (by simp [bys]; omega)]

set_option maxRecDepth 100000 in
theorem open_item9 {n : Nat} {cs : List Value} {x : DataW H × List MemPlace} (h : DataW.trod enc Tryz.prog w 0 (fun _ => true) true n 55 cs = some x) (hw : ∀ n ∈ x.1.weights Tryz.prog 55, n ≤ reachBytes) : ∃ s : It9, cs = s.cells ∧ ItIn w s := by
  obtain ⟨xs, m, rfl, hx, hl, hlen, hf⟩ := DataW.trod_struct Tryz.underlying55 h
  have hcl : Tryz.prog.cellsOf 55 = 35 := by kernel_rfl
  have hci : Tryz.prog.cellsOf 3 = 1 := by kernel_rfl
  have hcb : Tryz.prog.cellsOf 4 = 1 := by kernel_rfl
  have hcr : Tryz.prog.cellsOf 33 = 1 := by kernel_rfl
  have hcd : Tryz.prog.cellsOf 36 = 32 := by kernel_rfl
  rw [hcl] at hl
  match xs, hlen with
  | [y0, y1, y2, y3], _ =>
    have h0 : DataW.trod enc Tryz.prog w 0 (fun _ => true) true m 36 ((cs.drop 0).take (Tryz.prog.cellsOf 36)) = some y0 := hf 0 _ rfl
    have h1 : DataW.trod enc Tryz.prog w 0 (fun _ => true) true m 33 ((cs.drop 32).take (Tryz.prog.cellsOf 33)) = some y1 := hf 1 _ rfl
    have h2 : DataW.trod enc Tryz.prog w 0 (fun _ => true) true m 3 ((cs.drop 33).take (Tryz.prog.cellsOf 3)) = some y2 := hf 2 _ rfl
    have h3 : DataW.trod enc Tryz.prog w 0 (fun _ => true) true m 4 ((cs.drop 34).take (Tryz.prog.cellsOf 4)) = some y3 := hf 3 _ rfl
    rw [hcd] at h0
    rw [hcr] at h1
    rw [hci] at h2
    rw [hcb] at h3
    obtain ⟨A, hA, e0⟩ := open_id9 h0
    have t1 : ∃ v, (cs.drop 32).take 1 = [v] := by
      match hq : (cs.drop 32).take 1 with
      | [v] => exact ⟨v, rfl⟩
      | [] => have := congrArg List.length hq; rw [List.length_take, List.length_drop] at this; simp at this; omega
      | a :: b :: r => have := congrArg List.length hq; rw [List.length_take, List.length_drop] at this; simp at this; omega
    obtain ⟨v, e1⟩ := t1
    rw [e1] at h1
    obtain ⟨ao, mm, cap, xs5, e4, hin⟩ := open_bytes h1 (fun j hj => hw j (by
      rw [hx]
      simp only [DataW.weights, Tryz.underlying55, DataW.weightsEach, List.mem_append, List.map_cons, List.map_nil]
      simp [DataW.weightsEach, hj]))
    obtain ⟨k, e2, _, w2⟩ := DataW.trod_int Tryz.underlying3 h2
    obtain ⟨b, e3, _⟩ := DataW.trod_bool Tryz.underlying4 h3
    refine ⟨⟨A, ao, mm, cap, xs5, k, b, hA⟩, ?_, ⟨hin, w2⟩⟩
    show cs = bys A ++ [.slice ao mm cap, .int .i64 k, .bool b]
    have hd : ∀ k, cs.drop k = (cs.drop k).take 1 ++ cs.drop (k + 1) := fun k => by
      have := (List.take_append_drop 1 (cs.drop k)).symm
      rwa [List.drop_drop] at this
    have e5 : cs.drop 35 = [] := List.drop_eq_nil_of_le (by omega)
    have e6 : cs = cs.take 32 ++ cs.drop 32 := (List.take_append_drop 32 cs).symm
    rw [List.drop_zero] at e0
    rw [e6, e0, hd 32, hd 33, hd 34, e1, e2, e3, e5, e4]
    rfl

set_option maxRecDepth 100000 in
theorem open_result9 {n : Nat} {cs : List Value} {x : DataW H × List MemPlace} (h : DataW.trod enc Tryz.prog w 0 (fun _ => true) true n 49 cs = some x) : ∃ e : Rz, cs = e.cells := by
  obtain ⟨xs, m, rfl, hx, hl, hlen, hf⟩ := DataW.trod_struct Tryz.underlying49 h
  have hcl : Tryz.prog.cellsOf 49 = 65 := by kernel_rfl
  have hci : Tryz.prog.cellsOf 3 = 1 := by kernel_rfl
  have hcd : Tryz.prog.cellsOf 36 = 32 := by kernel_rfl
  rw [hcl] at hl
  match xs, hlen with
  | [y0, y1, y2], _ =>
    have h0 : DataW.trod enc Tryz.prog w 0 (fun _ => true) true m 36 ((cs.drop 0).take (Tryz.prog.cellsOf 36)) = some y0 := hf 0 _ rfl
    have h1 : DataW.trod enc Tryz.prog w 0 (fun _ => true) true m 36 ((cs.drop 32).take (Tryz.prog.cellsOf 36)) = some y1 := hf 1 _ rfl
    have h2 : DataW.trod enc Tryz.prog w 0 (fun _ => true) true m 3 ((cs.drop 64).take (Tryz.prog.cellsOf 3)) = some y2 := hf 2 _ rfl
    rw [hcd] at h0 h1
    rw [hci] at h2
    obtain ⟨A, hA, e0⟩ := open_id9 h0
    obtain ⟨R, hR, e1⟩ := open_id9 h1
    obtain ⟨k, e2, _, w2⟩ := DataW.trod_int Tryz.underlying3 h2
    refine ⟨⟨A, R, k, hA, hR⟩, ?_⟩
    show cs = bys A ++ (bys R ++ [.int .i64 k])
    rw [← e0, ← e1, ← e2, List.drop_zero]
    have t2 : (cs.drop 64).take 1 = cs.drop 64 := List.take_of_length_le (by rw [List.length_drop]; omega)
    rw [t2]
    have : (cs.drop 32).take 32 ++ cs.drop 64 = cs.drop 32 := by
      have := List.take_append_drop 32 (cs.drop 32)
      rwa [List.drop_drop] at this
    rw [this, List.take_append_drop]

/-- A list of structs that came in, with its weight. -/
theorem open_structs9 {α : Type} [Inhabited α] (t e : TypeId) (sz by_ : Nat) (ht : Tryz.prog.underlying t = some (.slice e)) (hcl : Tryz.prog.cellsOf e = sz) (hb1 : Tryz.prog.bytesOf e = by_) (h0 : 0 < sz) (cells : α → List Value) (hlen : ∀ a, (cells a).length = sz) (OK : α → Prop)
    (op : ∀ (n : Nat) (cs : List Value) (x : DataW H × List MemPlace), DataW.trod enc Tryz.prog w 0 (fun _ => true) true n e cs = some x → (∀ n ∈ x.1.weights Tryz.prog e, n ≤ reachBytes) → ∃ s, cs = cells s ∧ OK s)
    {fuel : Nat} {v : Value} {x : DataW H × List MemPlace} (h : DataW.trod enc Tryz.prog w 0 (fun _ => true) true fuel t [v] = some x) (hw : ∀ n ∈ x.1.weights Tryz.prog t, n ≤ reachBytes) :
    ∃ (ao : Option Addr) (n cap : Nat) (L : List α), v = .slice ao n cap ∧ L.length = n ∧ (∀ i, i < L.length → ∃ b off, ao = some ⟨b, off, none⟩ ∧ (∀ j v, (cells (L.getD i default))[j]? = some v → w.cell? ⟨b, off + i * sz + j, none⟩ = some v) ∧ OK (L.getD i default)) ∧ n ≤ cap ∧ cap * by_ ≤ 140737488351232 ∧ (ao = none → n = 0 ∧ cap = 0) := by
  rcases open_slice ht h with ⟨hcs, _⟩ | ⟨a, len, cap, m, n, D, Pl, hcs, _, hl, hm, hmm, hxx, hx⟩
  · cases hcs
    exact ⟨none, 0, 0, [], rfl, rfl, fun i hi => by simp at hi, by omega, by omega, fun _ => ⟨rfl, rfl⟩⟩
  · cases hcs
    simp only [if_true] at hmm
    have hcap : cap * by_ ≤ 140737488351232 := by
      have := hw (((List.range len).map D).length + ((List.range (m - len)).map fun j => D (len + j)).length |>.mul by_) (by
        rw [hxx]
        simp only [DataW.weights, ht, hb1, List.mem_cons]
        exact .inl rfl)
      have hr : reachBytes = 140737488351232 := rfl
      rw [hr] at this
      have e1 : (((List.range len).map D).length + ((List.range (m - len)).map fun j => D (len + j)).length).mul by_ = (len + (m - len)) * by_ := by simp
      rw [e1] at this
      rw [hmm] at this
      have e2 : len + (cap - len) = cap := by omega
      rw [e2] at this
      exact this
    subst hmm
    rw [hcl] at hx
    obtain ⟨b, off, spot⟩ := a
    have hwD : ∀ i, i < len → ∀ n ∈ (D i).weights Tryz.prog e, n ≤ reachBytes := by
      intro i hi n hn
      refine hw n ?_
      rw [hxx]
      simp only [DataW.weights, ht, List.mem_cons, List.mem_append]
      exact .inr (.inl (weights_all9 (List.mem_map_of_mem (List.mem_range.2 hi)) hn))
    have hel : ∀ i, i < len → ∃ c : α, spot = none ∧ (∀ j v, (cells c)[j]? = some v → w.cell? ⟨b, off + i * sz + j, none⟩ = some v) ∧ OK c := by
      intro i hi
      obtain ⟨cs', h1, h2⟩ := hx i (by omega)
      obtain ⟨s, rfl, hin⟩ := op _ _ _ h2 (hwD i hi)
      obtain ⟨_, _, h3⟩ := World.cells?_some h1
      have hsp : spot = none := by
        obtain ⟨cs0, g1, g2⟩ := hx 0 (by omega)
        obtain ⟨s0, rfl, _⟩ := op _ _ _ g2 (hwD 0 (by omega))
        obtain ⟨_, _, g3⟩ := World.cells?_some g1
        have h5 := g3 0 h0
        rw [show (((⟨b, off, spot⟩ : Addr).add (0 * sz)).add 0) = ⟨b, off, spot⟩ by simp [Addr.add]] at h5
        obtain ⟨u, hu⟩ : ∃ u, (cells s0)[0]? = some u := ⟨_, List.getElem?_eq_getElem (by rw [hlen]; exact h0)⟩
        rw [hu] at h5
        exact World.cell?_spot (a := ⟨b, off, spot⟩) h5
      subst hsp
      refine ⟨s, rfl, fun j v hv => ?_, hin⟩
      have hj : j < sz := by have := (List.getElem?_eq_some_iff.1 hv).1; rw [hlen] at this; exact this
      have g := h3 j hj
      rw [Addr.add_mid, Addr.add_mid] at g
      rw [g]
      exact hv
    obtain ⟨f, hf⟩ := choose_lt (α := α) hel
    refine ⟨_, len, _, (List.range len).map f, rfl, by simp, fun i hi => ?_, by omega, hcap, by simp⟩
    have hi' : i < len := by simpa using hi
    obtain ⟨hsp, hc, hin⟩ := hf i hi'
    subst hsp
    have e : ((List.range len).map f).getD i default = f i := by simp [hi']
    rw [e]
    exact ⟨b, off, rfl, hc, hin⟩

/-- Items that came in. -/
structure InI (w : World) (ao : Option Addr) (n cap : Nat) (L : List It9) : Prop where
  len : L.length = n
  le : n ≤ cap
  max : cap * 72 ≤ 140737488351232
  its : ItsAt w ao L
/-- Results that came in. -/
structure InZ (w : World) (ao : Option Addr) (n cap : Nat) (L : List Rz) : Prop where
  len : L.length = n
  le : n ≤ cap
  max : cap * 72 ≤ 140737488351232
  rss : Rss w ao L
  nil : ao = none → n = 0 ∧ cap = 0
theorem InI.kept {w w' : World} {ao : Option Addr} {n cap : Nat} {L : List It9} (h : InI w ao n cap L) (hk : Kept [] w w') : InI w' ao n cap L := ⟨h.len, h.le, h.max, h.its.kept hk⟩
theorem InZ.kept {w w' : World} {ao : Option Addr} {n cap : Nat} {L : List Rz} (h : InZ w ao n cap L) (hk : Kept [] w w') : InZ w' ao n cap L := ⟨h.len, h.le, h.max, h.rss.kept hk (fun _ _ _ => by simp), h.nil⟩
theorem open_ini {fuel : Nat} {v : Value} {x : DataW H × List MemPlace} (h : DataW.trod enc Tryz.prog w 0 (fun _ => true) true fuel 22 [v] = some x) (hw : ∀ n ∈ x.1.weights Tryz.prog 22, n ≤ reachBytes) :
    ∃ ao n cap L, v = .slice ao n cap ∧ InI w ao n cap L := by
  obtain ⟨ao, n, cap, L, hv, hn, hb, hc, hm, _⟩ := open_structs9 (α := It9) 22 55 35 72 Tryz.underlying22 (by kernel_rfl) (by kernel_rfl) (by omega) It9.cells It9.len (ItIn w) (fun n cs x h hw => open_item9 h hw) h hw
  refine ⟨ao, n, cap, L, hv, hn, hc, hm, fun i hi => ?_⟩
  obtain ⟨b, off, e, h1, h2⟩ := hb i hi
  exact ⟨⟨b, off, e, h1⟩, h2⟩
theorem open_inz {fuel : Nat} {v : Value} {x : DataW H × List MemPlace} (h : DataW.trod enc Tryz.prog w 0 (fun _ => true) true fuel 23 [v] = some x) (hw : ∀ n ∈ x.1.weights Tryz.prog 23, n ≤ reachBytes) :
    ∃ ao n cap L, v = .slice ao n cap ∧ InZ w ao n cap L := by
  obtain ⟨ao, n, cap, L, hv, hn, hb, hc, hm, h0⟩ := open_structs9 (α := Rz) 23 49 65 72 Tryz.underlying23 (by kernel_rfl) (by kernel_rfl) (by omega) Rz.cells Rz.len (fun _ => True) (fun n cs x h hw => by obtain ⟨s, e⟩ := open_result9 h; exact ⟨s, e, trivial⟩) h hw
  refine ⟨ao, n, cap, L, hv, hn, hc, hm, fun i hi => ?_, h0⟩
  obtain ⟨b, off, e, h1, _⟩ := hb i hi
  exact ⟨b, off, e, h1⟩
end

set_option maxRecDepth 100000 in
theorem open_idv9 {H : Type} {enc : TypeId × Value → H} {w : World} {r : Reach} {b0 : Nat} {v : Value} {d : DataW H} {p : List MemPlace} (hv : Value.okWide Tryz.prog w r b0 36 v) (h : DataW.Trod enc Tryz.prog w 0 (fun _ => true) true 36 v d p) :
    ∃ L : List UInt8, L.length = 32 ∧ v = .agg (bys L).toArray := by
  have hv' : ∃ cs, v = .agg cs ∧ cs.size = Tryz.prog.cellsOf 36 ∧ Row.okWide Tryz.prog w r b0 36 cs := by
    unfold Value.okWide at hv
    rw [Tryz.underlying36] at hv
    exact hv
  obtain ⟨cs, rfl, hs, _⟩ := hv'
  obtain ⟨fuel, hf⟩ := h
  obtain ⟨L, hl, e⟩ := open_id9 hf
  have e' : cs.toList = bys L := e
  exact ⟨L, hl, by rw [← e']⟩
end

section
open Go.RowKit Go.Lib Go.Sort
set_option linter.unusedVariables false
set_option linter.unusedSimpArgs false

theorem nodup_le : ∀ {l m : List (List UInt8)}, l.Nodup → (∀ q ∈ l, q ∈ m) → l.length ≤ m.length
  | [], m, _, _ => Nat.zero_le _
  | a :: l, m, hn, h => by
    rw [List.nodup_cons] at hn
    have ha := h a (by simp)
    have h1 := nodup_le (m := m.erase a) hn.2 (fun q hq => by
      have hne : q ≠ a := fun e => hn.1 (by rw [← e]; exact hq)
      exact (List.mem_erase_of_ne hne).2 (h q (by simp [hq])))
    have h2 := List.length_erase_of_mem ha
    have h3 := List.length_pos_of_mem ha
    simp only [List.length_cons]
    omega
theorem insI_len (K : List (List UInt8)) (i : List UInt8) : (insI K i).length ≤ K.length + 1 := by
  unfold insI
  split
  · omega
  · simp
theorem insA_len : ∀ (L K : List (List UInt8)), (insA K L).length ≤ K.length + L.length
  | [], K => by simp [insA]
  | i :: L, K => by
    have h1 := insA_len L (insI K i)
    have h2 := insI_len K i
    show (insA (insI K i) L).length ≤ _
    simp only [List.length_cons]
    omega
theorem tree_len (f : List UInt8 → An) (s : Ws) (i : List UInt8) : (s.tree f i).2.N.length ≤ s.N.length + 32 := by
  unfold Ws.tree
  by_cases h : i ∈ s.A
  · rw [if_pos h]; show s.N.length ≤ _; omega
  · rw [if_neg h]
    cases f i with
    | fail => show s.N.length ≤ _; omega
    | lack => show s.N.length ≤ _; omega
    | data xs =>
      show ((s.asked i).readE i (Tn.parse xs)).N.length ≤ _
      cases hp : Tn.parse xs with
      | none => show s.N.length ≤ _; omega
      | some E =>
        show (insA s.N (E.map (·.id))).length ≤ _
        have h1 := insA_len (E.map (·.id)) s.N
        have h2 := parse_lenK hp
        rw [List.length_map] at h1
        omega
theorem trees_len (f : List UInt8 → An) : ∀ (R : List (List UInt8)) (s : Ws), (Ws.trees f s R).2.N.length ≤ s.N.length + 32 * R.length
  | [], s => by show s.N.length ≤ _; omega
  | i :: R, s => by
    have h1 := tree_len f s i
    simp only [Ws.trees]
    by_cases hc : (s.tree f i).1 = true
    · rw [if_pos hc]
      have h2 := trees_len f R (s.tree f i).2
      simp only [List.length_cons]
      omega
    · rw [if_neg hc]
      simp only [List.length_cons]
      omega
theorem flat_len {fl : List UInt8 → List (List UInt8)} (h : ∀ q, (fl q).length ≤ 32) : ∀ R : List (List UInt8), (R.flatMap fl).length ≤ 32 * R.length
  | [] => by simp
  | i :: R => by
    have h1 := flat_len h R
    have h2 := h i
    rw [List.flatMap_cons, List.length_append, List.length_cons]
    omega

theorem own_ne_walk {w : World} {base g : Nat} {v : Value} {C : List (List UInt8)} {cs : Array Value} (h : OwnI w base v C) (hg : w.heap[g]? = some (.cells cs 80 (0, 0))) : v.ownBlock ≠ some g := by
  rcases h.1.2 with ⟨rfl, _⟩ | ⟨q, cap, cur, rfl, hb, hh, _⟩
  · simp [Value.ownBlock]
  · intro e
    simp only [Value.ownBlock, Option.some.injEq] at e
    subst e
    rw [hh] at hg
    simp at hg

section
variable {w0 : World} {o0 : Nat → Prop} {wb : World} {ub : Nat → Prop} {T : TypeId} {sv : Value} {fn : Nat} {rv : Value} {f : List UInt8 → An} {Er : List UInt8 → World → Value → Prop} {G : List (List UInt8) → (Nat → Prop) → World → Prop} {w w' : World} {P : Nat} {x : Wfd} {s : Ws} {br : Nat} {K : List (List UInt8)}

/-- The walk as it begins. -/
theorem Wz.begin (S : Src T sv fn rv f Er G) {ord : List (List UInt8)} {o : Nat → Prop} (hG : G ord o w) (gl : GlE w) (tabs : Tabs w) (offg : ∀ b, b < 4 → ¬ o b) (hk : Kept [] w w') (row : w'.heap[P]? = some (.cells x.cells 80 (0, 0))) {N : List (List UInt8)} (a : Is w' x.bA []) (n : Is w' x.bN N) (l : Is w' x.bL []) (b : Is w' x.bB []) (fo : Im w' x.bF [] []) (hd : x.maps.Nodup) (hP : w.heap.size ≤ P) (hm : ∀ g ∈ x.maps, w.heap.size ≤ g) (hs : x.src = .iface T sv) :
    Wz w o w' (fun b => o b ∨ b ∈ x.maps) T sv G P x ⟨ord, [], N, [], [], fun _ => []⟩ w' := by
  refine ⟨[], [], o, ⟨⟨row, a, n, l, b, fo, fun j hj => absurd hj (by simp), fun j k _ hk => absurd hk (by simp), hd, hP, hm⟩, S.keep hG (Kp.ofKept hk (by simp)), hs, fun h => ?_, fun g hg h => ?_, fun j hj => absurd hj (by simp), offg, fun b hb => .inl hb, Kp.ofKept hk (by simp), ⟨rfl, rfl, rfl, Nat.le_refl _, fun _ _ _ => rfl⟩, fun b hb => ?_, hk.cellOf gl (by simp), tabs.kept hk (by simp), tabs.big⟩, fun q => rfl, fun q _ => rfl, fun q => by simp⟩
  · have := S.lim hG _ h; omega
  · have := S.lim hG _ h; have := hm g hg; omega
  · rcases hb with hb | hb | ⟨j, hj, _⟩
    · exact .inl (.inl hb)
    · exact .inl (.inr hb)
    · exact absurd hj (by simp)

/-- A set that stands beside the walk. -/
def Fr (w0 : World) (o0 : Nat → Prop) (T : TypeId) (sv : Value) (G : List (List UInt8) → (Nat → Prop) → World → Prop) (P : Nat) (x : Wfd) (s : Ws) (br : Nat) (K : List (List UInt8)) (w : World) : Prop :=
  ∃ wb ub, Wz w0 o0 wb ub T sv G P x s w ∧ Is wb br K ∧ ¬ ub br
theorem Fr.is (h : Fr w0 o0 T sv G P x s br K w) : Is w br K := by
  obtain ⟨wb, ub, ⟨F, V, o, h1, _⟩, h2, h3⟩ := h
  exact Im.same h2 (h1.kb.block br h2.lt h3)
theorem Fr.next (S : Src T sv fn rv f Er G) (h : Wz w0 o0 wb ub T sv G P x s w) (hk : Kept [] w w') (hb : w.heap.size ≤ br) (hs : Is w' br K) : Fr w0 o0 T sv G P x s br K w' := by
  obtain ⟨ft, h1, h2, _⟩ := h.rebase S hk
  exact ⟨w', ft, h2, hs, fun h => by have := h1 _ h; omega⟩
theorem Fr.fl (h : Fr w0 o0 T sv G P x s br K w) (q : List UInt8) : (s.fl q).length ≤ 32 := by
  obtain ⟨wb, ub, ⟨F, V, o, h1, h2, h3, h4⟩, _⟩ := h
  exact h4 q
/-- The round is kept in the walk's last field. -/
theorem Fr.deepen (S : Src T sv fn rv f Er G) (h : Fr w0 o0 T sv G P x s br K w) : Fr w0 o0 T sv G P { x with deep := .map (some br) } s br K (w.setCell ⟨P, 6, none⟩ (.map (some br))) := by
  have his := h.is
  obtain ⟨wb, ub, ⟨F, V, o, h1, h2⟩, h3, h4⟩ := h
  have hk : Kept [P] w (w.setCell ⟨P, 6, none⟩ (.map (some br))) := (Kept.refl [P] w).setCell (by simp) _
  have hrow : (w.setCell ⟨P, 6, none⟩ (.map (some br))).heap[P]? = some (.cells ({ x with deep := .map (some br) } : Wfd).cells 80 (0, 0)) := by
    rw [heap_setCell_same _ _ _ _ _ _ h1.wk.row]
    rfl
  generalize w.setCell ⟨P, 6, none⟩ (.map (some br)) = w9 at hk hrow ⊢
  have hm : ∀ g ∈ x.maps, w9.heap[g]? = w.heap[g]? := fun g hg => by
    obtain ⟨es, c, e⟩ := h1.wk.map_at hg
    exact hk.block g (Array.getElem?_eq_some_iff.1 e).1 (by simp; exact fun e => h1.wk.neP hg e.symm)
  have hrw : ∀ j, j < F.length → (V.getD j unitv).ownBlock ≠ some P := fun j hj => own_ne_walk (h1.wk.rows j hj) h1.wk.row
  have hbp : br ≠ P := by
    intro e
    obtain ⟨es, c, e1, _⟩ := his
    rw [e, h1.wk.row] at e1
    cases e1
  have hPl := h1.wk.lo.1
  have htp := h1.top
  have hwk : Wk w0 w9 P { x with deep := .map (some br) } s.A s.N s.L s.B F V :=
    ⟨hrow, Im.same h1.wk.a (hm _ (by simp [Wfd.maps])), Im.same h1.wk.n (hm _ (by simp [Wfd.maps])), Im.same h1.wk.l (hm _ (by simp [Wfd.maps])), Im.same h1.wk.b (hm _ (by simp [Wfd.maps])), Im.same h1.wk.f (hm _ (by simp [Wfd.maps])), fun j hj => (h1.wk.rows j hj).kept hk (fun q hq hm => hrw j hj (by simp at hm; rw [← hm]; exact hq)), h1.wk.apart, h1.wk.dist, h1.wk.lo⟩
  refine ⟨w9, fun b => o b ∨ b ∈ x.maps ∨ ∃ j, j < F.length ∧ (V.getD j unitv).ownBlock = some b, ⟨F, V, o, ⟨hwk, S.keep h1.src (Kp.ofKept hk (fun b hb _ => by simp at hb; subst hb; exact ⟨h1.offP, Nat.le_trans h1.top h1.wk.lo.1⟩)), h1.isrc, h1.offP, h1.offm, h1.offr, h1.offg, h1.o0r, h1.kp.trans (Kp.ofKept (o := fun b => b = P) hk (by simp)) (fun i e hi => by omega), ⟨rfl, rfl, rfl, Nat.le_refl _, fun _ _ _ => rfl⟩, fun b hb => .inl hb, hk.cellOf h1.gl (by simp; omega), h1.tabs.kept hk (by simp; omega), h1.top⟩, h2⟩, ?_, fun hb => ?_⟩
  · exact Im.same his (hk.block br his.lt (by simpa using hbp))
  · rcases h1.ubr br hb with h5 | h5
    · exact h4 h5
    · have := h3.lt; omega
end
end

section
open Go.RowKit Go.Lib Go.Sort
set_option linter.unusedVariables false
set_option linter.unusedSimpArgs false

/-- What a walk finds out lies in U. -/
def InU (U : List (List UInt8)) (s : Ws) : Prop := (∀ q ∈ s.N, q ∈ U) ∧ ∀ i, ∀ q ∈ s.fl i, q ∈ U
theorem mem_fldsE {E : List Ent} {q : List UInt8} (h : q ∈ fldsE E) : ∃ e ∈ E, e.id = q := by
  unfold fldsE at h
  obtain ⟨e, h1, h2⟩ := List.mem_map.1 h
  exact ⟨e, (List.mem_filter.1 h1).1, h2⟩
theorem inU_tree {U : List (List UInt8)} {f : List UInt8 → An} (hf : ∀ i xs E, f i = .data xs → Tn.parse xs = some E → ∀ e ∈ E, e.id ∈ U) {s : Ws} (h : InU U s) (i : List UInt8) : InU U (s.tree f i).2 := by
  unfold Ws.tree
  by_cases hA : i ∈ s.A
  · rw [if_pos hA]; exact h
  · rw [if_neg hA]
    cases hfi : f i with
    | fail => exact h
    | lack => exact h
    | data xs =>
      show InU U ((s.asked i).readE i (Tn.parse xs))
      cases hp : Tn.parse xs with
      | none => exact h
      | some E =>
        refine ⟨fun q hq => ?_, fun k q hq => ?_⟩
        · have hq : q ∈ insA s.N (E.map (·.id)) := hq
          rcases mem_insA.1 hq with h1 | h1
          · exact h.1 q h1
          · obtain ⟨e, he, rfl⟩ := List.mem_map.1 h1
            exact hf i xs E hfi hp e he
        · have hq : q ∈ (if k = i then fldsE E else s.fl k) := hq
          by_cases e : k = i
          · rw [if_pos e] at hq
            obtain ⟨e, he, rfl⟩ := mem_fldsE hq
            exact hf i xs E hfi hp e he
          · rw [if_neg e] at hq
            exact h.2 k q hq
theorem inU_trees {U : List (List UInt8)} {f : List UInt8 → An} (hf : ∀ i xs E, f i = .data xs → Tn.parse xs = some E → ∀ e ∈ E, e.id ∈ U) : ∀ (R : List (List UInt8)) {s : Ws}, InU U s → InU U (Ws.trees f s R).2
  | [], s, h => h
  | i :: R, s, h => by
    have h1 := inU_tree hf h i
    simp only [Ws.trees]
    by_cases hc : (s.tree f i).1 = true
    · rw [if_pos hc]; exact inU_trees hf R h1
    · rw [if_neg hc]; exact h1
theorem rounds_none {f : List UInt8 → An} {m : Nat} {s s' : Ws} {R : List (List UInt8)} (h : Ws.trees f s R = (none, s')) : Ws.rounds f (m + 1) s R = Ws.rounds f m s' (canon (R.flatMap s'.fl)) := by
  simp only [Ws.rounds, h]
theorem rounds_some {f : List UInt8 → An} {m : Nat} {s s' : Ws} {R : List (List UInt8)} {i : List UInt8} (h : Ws.trees f s R = (some i, s')) : Ws.rounds f (m + 1) s R = (some i, s', R) := by
  simp only [Ws.rounds, h]
theorem walkW_some {f : List UInt8 → An} {ord roots : List (List UInt8)} {s : Ws} {R : List (List UInt8)} {i : List UInt8} (h : Ws.rounds f 6 ⟨ord, [], insA [] roots, [], [], fun _ => []⟩ (canon roots) = (some i, s, R)) : walkW f ord roots = (some i, s, R) := by
  simp only [walkW, h]
theorem walkW_none {f : List UInt8 → An} {ord roots : List (List UInt8)} {s : Ws} {R : List (List UInt8)} (h : Ws.rounds f 6 ⟨ord, [], insA [] roots, [], [], fun _ => []⟩ (canon roots) = (none, s, R)) : walkW f ord roots = ((Ws.others f s (canon s.N)).1, (Ws.others f s (canon s.N)).2, R) := by
  simp only [walkW, h]
theorem canon_next {K K' : List (List UInt8)} {fl : List UInt8 → List (List UInt8)} (h : ∀ q, q ∈ K' ↔ ∃ i ∈ K, q ∈ fl i) : canon ((canon K).flatMap fl) = canon K' :=
  up_uniq (up_canon _) (up_canon _) (fun q => by
    rw [mem_canon, mem_canon, h q, List.mem_flatMap]
    constructor
    · rintro ⟨i, h1, h2⟩; exact ⟨i, mem_canon.1 h1, h2⟩
    · rintro ⟨i, h1, h2⟩; exact ⟨i, mem_canon.2 h1, h2⟩)

theorem Tryz.builtWalk (op : ByteArray) (T : TypeId) (sv : Value) (a b c d e : Nat) (w : World) : (Instr.build 80 #[(0, .string op), (1, .iface T sv), (2, .map (some a)), (3, .map (some b)), (4, .map (some c)), (5, .map (some d)), (7, .map (some e))]).run Tryz.prog w = .ok (.agg #[.string op, .iface T sv, .map (some a), .map (some b), .map (some c), .map (some d), .map none, .map (some e)]) w := by kernel_rfl

theorem szal (w : World) (b : Obj) : (w.alloc b).heap.size = w.heap.size + 1 := by simp
def wfd0 (op : List UInt8) (T : TypeId) (sv : Value) (a bN m : Nat) : Wfd := ⟨op, .iface T sv, a, bN, m, m + 1, .map none, m + 1 + 1⟩
def begW (w2 : World) (x : Wfd) : World := (((w2.alloc (.map #[] 0)).alloc (.map #[] 0)).alloc (.map #[] 0)).alloc (.cells x.cells 80)
theorem Wz.begin4 {T : TypeId} {sv : Value} {fn : Nat} {rv : Value} {f : List UInt8 → An} {Er : List UInt8 → World → Value → Prop} {G : List (List UInt8) → (Nat → Prop) → World → Prop} (S : Src T sv fn rv f Er G) (op : List UInt8) {ord : List (List UInt8)} {o : Nat → Prop} {w w2 : World} (hG : G ord o w) (gl : GlE w) (tabs : Tabs w) (offg : ∀ b, b < 4 → ¬ o b) {bN : Nat} {N : List (List UInt8)} (hN : Is w2 bN N) (hk : Kept [] (w.alloc (.map #[] 0)) w2) (hb : (w.alloc (.map #[] 0)).heap.size ≤ bN) :
    Kept [] w (begW w2 (wfd0 op T sv w.heap.size bN w2.heap.size)) ∧ Wz w o (begW w2 (wfd0 op T sv w.heap.size bN w2.heap.size)) (fun b => o b ∨ b ∈ (wfd0 op T sv w.heap.size bN w2.heap.size).maps) T sv G (w2.heap.size + 1 + 1 + 1) (wfd0 op T sv w.heap.size bN w2.heap.size) ⟨ord, [], N, [], [], fun _ => []⟩ (begW w2 (wfd0 op T sv w.heap.size bN w2.heap.size)) := by
  obtain ⟨x, hx⟩ : ∃ x, x = wfd0 op T sv w.heap.size bN w2.heap.size := ⟨_, rfl⟩
  have e1 := szal w (.map #[] 0)
  have e2 := szal w2 (.map #[] 0)
  have e3 := szal (w2.alloc (.map #[] 0)) (.map #[] 0)
  have e4 := szal ((w2.alloc (.map #[] 0)).alloc (.map #[] 0)) (.map #[] 0)
  have hs := hk.size
  have hlN := hN.lt
  have k1 : Kept [] w (w.alloc (.map #[] 0)) := (Kept.refl [] w).alloc _
  have k2 : Kept [] w2 (w2.alloc (.map #[] 0)) := (Kept.refl [] w2).alloc _
  have k3 : Kept [] (w2.alloc (.map #[] 0)) ((w2.alloc (.map #[] 0)).alloc (.map #[] 0)) := (Kept.refl [] _).alloc _
  have k4 : Kept [] ((w2.alloc (.map #[] 0)).alloc (.map #[] 0)) (((w2.alloc (.map #[] 0)).alloc (.map #[] 0)).alloc (.map #[] 0)) := (Kept.refl [] _).alloc _
  have k5 : Kept [] (((w2.alloc (.map #[] 0)).alloc (.map #[] 0)).alloc (.map #[] 0)) (begW w2 x) := (Kept.refl [] _).alloc _
  have k25 : Kept [] w2 (begW w2 x) := ((k2.trans k3 (by simp)).trans k4 (by simp)).trans k5 (by simp)
  have k05 : Kept [] w (begW w2 x) := (k1.trans hk (by simp)).trans k25 (by simp)
  have hA : Is (begW w2 x) w.heap.size [] := Is.kept (Is.kept (show Is _ _ _ from new_im w) hk (by simp)) k25 (by simp)
  have hL : Is (begW w2 x) w2.heap.size [] := Is.kept (show Is _ _ _ from new_im w2) ((k3.trans k4 (by simp)).trans k5 (by simp)) (by simp)
  have hB : Is (begW w2 x) (w2.heap.size + 1) [] := by
    have := Is.kept (show Is _ _ _ from new_im (w2.alloc (.map #[] 0))) (k4.trans k5 (by simp)) (by simp)
    rwa [e2] at this
  have hF : Im (begW w2 x) (w2.heap.size + 1 + 1) [] [] := by
    have := Im.kept (new_im ((w2.alloc (.map #[] 0)).alloc (.map #[] 0))) k5 (by simp)
    rwa [e3, e2] at this
  have hrow : (begW w2 x).heap[w2.heap.size + 1 + 1 + 1]? = some (.cells x.cells 80 (0, 0)) := by
    have := new_atK (((w2.alloc (.map #[] 0)).alloc (.map #[] 0)).alloc (.map #[] 0)) (.cells x.cells 80)
    rwa [e4, e3, e2] at this
  rw [← hx]
  refine ⟨k05, Wz.begin S hG gl tabs offg k05 hrow (by rw [hx]; rw [hx] at hA; exact hA) (by rw [hx]; rw [hx] at k25; exact hN.kept k25 (by simp)) (by rw [hx]; rw [hx] at hL; exact hL) (by rw [hx]; rw [hx] at hB; exact hB) (by rw [hx]; rw [hx] at hF; exact hF) ?_ ?_ ?_ (by rw [hx]; rfl)⟩
  · rw [hx]
    simp only [wfd0, Wfd.maps, List.nodup_cons, List.mem_cons, List.mem_nil_iff, or_false, not_or, List.nodup_nil, and_true, not_false_eq_true]
    omega
  · omega
  · intro g hg
    rw [hx] at hg
    simp only [wfd0, Wfd.maps, List.mem_cons, List.mem_nil_iff, or_false] at hg
    omega

theorem canon_insA (l : List (List UInt8)) : canon (insA [] l) = canon l := up_uniq (up_canon _) (up_canon _) (fun q => by rw [mem_canon, mem_canon, mem_insA]; simp)
section
variable {w0 : World} {o0 : Nat → Prop} {wb : World} {ub : Nat → Prop} {T : TypeId} {sv : Value} {fn : Nat} {rv : Value} {f : List UInt8 → An} {Er : List UInt8 → World → Value → Prop} {G : List (List UInt8) → (Nat → Prop) → World → Prop} {w : World} {P : Nat} {x : Wfd} {s s5 : Ws}
theorem atrees_none (S : Src T sv fn rv f Er G) (h : Wz w0 o0 wb ub T sv G P x s w) (br : Nat) (K : List (List UInt8)) (hs : Is w br K) (hK : K.length ≤ 4398046511104) (U : List (List UInt8)) (hUl : U.length ≤ 4398046511104) (hor : OrU U s) (hKU : ∀ q ∈ K, q ∈ U) (hT : Ws.trees f s (canon K) = (none, s5)) :
    Calls Tryz.prog 32 #[.pointer (some ⟨P, 0, none⟩), .map (some br)] w fun e w' => e = .returned .nilIface ∧ Wz w0 o0 wb ub T sv G P x s5 w' := by
  refine (atrees_ok S h br K hs hK U hUl hor hKU).mono ?_
  rintro e w' ⟨R, hp, hu, h1⟩
  have e1 : R = canon K := canon_of hp hu (fun _ => Iff.rfl)
  rw [e1, hT] at h1
  rcases h1 with ⟨_, h2, h3⟩ | ⟨i, eb, ev, h2, _⟩
  · exact ⟨h2, h3⟩
  · cases h2
theorem atrees_some (S : Src T sv fn rv f Er G) (h : Wz w0 o0 wb ub T sv G P x s w) (br : Nat) (K : List (List UInt8)) (hs : Is w br K) (hK : K.length ≤ 4398046511104) (U : List (List UInt8)) (hUl : U.length ≤ 4398046511104) (hor : OrU U s) (hKU : ∀ q ∈ K, q ∈ U) {i : List UInt8} (hT : Ws.trees f s (canon K) = (some i, s5)) :
    Calls Tryz.prog 32 #[.pointer (some ⟨P, 0, none⟩), .map (some br)] w fun e w' => ∃ eb ev, e = .returned (faultV eb) ∧ FltAt w' eb x.op i ev ∧ Er i w' ev ∧ Wz w0 o0 wb ub T sv G P x s5 w' := by
  refine (atrees_ok S h br K hs hK U hUl hor hKU).mono ?_
  rintro e w' ⟨R, hp, hu, h1⟩
  have e1 : R = canon K := canon_of hp hu (fun _ => Iff.rfl)
  rw [e1, hT] at h1
  rcases h1 with ⟨h2, _⟩ | ⟨i', eb, ev, h2, h3⟩
  · cases h2
  · cases h2
    exact ⟨eb, ev, h3⟩
theorem aothers_none (S : Src T sv fn rv f Er G) (h : Wz w0 o0 wb ub T sv G P x s w) (hK : s.N.length ≤ 4398046511104) (U : List (List UInt8)) (hUl : U.length ≤ 4398046511104) (hor : OrU U s) (hKU : ∀ q ∈ s.N, q ∈ U) (hT : Ws.others f s (canon s.N) = (none, s5)) :
    Calls Tryz.prog 34 #[.pointer (some ⟨P, 0, none⟩)] w fun e w' => e = .returned .nilIface ∧ Wz w0 o0 wb ub T sv G P x s5 w' := by
  refine (aothers_ok S h hK U hUl hor hKU).mono ?_
  rintro e w' ⟨R, hp, hu, h1⟩
  have e1 : R = canon s.N := canon_of hp hu (fun _ => Iff.rfl)
  rw [e1, hT] at h1
  rcases h1 with ⟨_, h2, h3⟩ | ⟨i, eb, ev, h2, _⟩
  · exact ⟨h2, h3⟩
  · cases h2
theorem aothers_some (S : Src T sv fn rv f Er G) (h : Wz w0 o0 wb ub T sv G P x s w) (hK : s.N.length ≤ 4398046511104) (U : List (List UInt8)) (hUl : U.length ≤ 4398046511104) (hor : OrU U s) (hKU : ∀ q ∈ s.N, q ∈ U) {i : List UInt8} (hT : Ws.others f s (canon s.N) = (some i, s5)) :
    Calls Tryz.prog 34 #[.pointer (some ⟨P, 0, none⟩)] w fun e w' => ∃ eb ev, e = .returned (faultV eb) ∧ FltAt w' eb x.op i ev ∧ Er i w' ev ∧ Wz w0 o0 wb ub T sv G P x s5 w' := by
  refine (aothers_ok S h hK U hUl hor hKU).mono ?_
  rintro e w' ⟨R, hp, hu, h1⟩
  have e1 : R = canon s.N := canon_of hp hu (fun _ => Iff.rfl)
  rw [e1, hT] at h1
  rcases h1 with ⟨h2, _⟩ | ⟨i', eb, ev, h2, h3⟩
  · cases h2
  · cases h2
    exact ⟨eb, ev, h3⟩
theorem znext_ok (h : Wz w0 o0 wb ub T sv G P x s w) (br : Nat) (K : List (List UInt8)) (hs : Is w br K) :
    Calls Tryz.prog 33 #[.pointer (some ⟨P, 0, none⟩), .map (some br)] w fun e w' => ∃ b' K', e = .returned (.map (some b')) ∧ Is w' b' K' ∧ (∀ q, q ∈ K' ↔ ∃ i ∈ K, q ∈ s.fl i) ∧ Kept [] w w' ∧ w.heap.size ≤ b' := by
  obtain ⟨F, V, o, h1, h2, h3, h4⟩ := h
  refine (wnext_ok h1.wk br K hs (fun q => by rw [h2 q]; exact h4 q)).mono ?_
  rintro e w' ⟨b', K', rfl, g1, g2, g3, g4⟩
  exact ⟨b', K', rfl, g1, fun q => by rw [g2 q]; simp only [h2], g3, g4⟩
theorem Wz.needs (h : Wz w0 o0 wb ub T sv G P x s w) : s.N.Nodup := by
  obtain ⟨F, V, o, h1, _⟩ := h
  exact Im.nodup h1.wk.n
theorem Wz.cell6 (h : Wz w0 o0 wb ub T sv G P x s w) : w.cell? ⟨P, 6, none⟩ = some x.deep := by
  obtain ⟨F, V, o, h1, _⟩ := h
  exact h1.wk.cell 6
end
end

end Go.Proofs.YtngaimahhgmciabGreatDoor
