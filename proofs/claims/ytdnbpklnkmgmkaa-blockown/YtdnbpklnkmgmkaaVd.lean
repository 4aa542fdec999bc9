/-
  The map of places: its keys, what a look-up and an entry do, how it lies in memory.
-/
import Derived.Test.YtdnbpklnkmgmkaaVc
import Derived.Test.YtdnbpklnkmgmkaaQp4
import Derived.Maps.OwnRows
import Derived.WideKeyArr2
import Derived.WideKeyEntry
namespace Go.Proofs.Ytdnbpklnkmgmkaa
open Go.RowKit
set_option linter.unusedVariables false
set_option linter.unusedSimpArgs false

theorem Try.arr3 : WideMaps.ArrKey Try.prog 100 5 3 := ⟨Try.underlying100, by kernel_rfl, by kernel_rfl, by kernel_rfl⟩
theorem Try.law3 : WideMaps.KeyLaw Try.prog 100 := Try.arr3.law
theorem Try.keyType3 : Try.prog.keyType 100 = true := by kernel_rfl
theorem Try.typesz : Try.prog.types.size + 1 = (Try.prog.types.size - 1) + 1 + 1 := by kernel_rfl
theorem Try.zeroInts (w : World) : (zeroValue 98).run Try.prog w = .ok (.slice none 0 0) w := by kernel_rfl
theorem Try.infoInt : (Try.prog.info? 3).map (fun i => (i.zero, i.size, i.bytes)) = some (some (.int .i64 0), 1, 8) := by kernel_rfl

theorem k3_inj {a b c a' b' c' : UInt8} (h : k3 a b c = k3 a' b' c') : a = a' ∧ b = b' ∧ c = c' := by
  unfold k3 at h
  simp only [Value.agg.injEq, Array.mk.injEq, List.cons.injEq, Value.int.injEq, Int.natCast_inj, and_true, true_and] at h
  exact ⟨UInt8.toNat_inj.1 h.1, UInt8.toNat_inj.1 h.2.1, UInt8.toNat_inj.1 h.2.2⟩

theorem byte_wf (a : UInt8) : (Lit.int .u8 (a.toNat : Int)).wf = true := by
  have := UInt8.toNat_lt a
  simp [Lit.wf, IntKind.min, IntKind.max, IntKind.bits, IntKind.signed]
  omega
theorem k3_key (a b c : UInt8) : ∃ l, keyOf Try.prog 100 (k3 a b c) = some l := by
  have h1 := byte_wf a
  have h2 := byte_wf b
  have h3 := byte_wf c
  have hu := Try.underlying100
  have hb := Try.underlying5
  have hs := Try.arr3.size
  have ho := Try.arr3.one
  unfold keyOf k3
  rw [hu]
  simp only [Try.keyType3, Value.formed, hu, hs, Bool.true_and]
  rw [Try.typesz]
  generalize Try.prog.types.size - 1 = m
  simp [Program.keyLits, hu, hb, hs, ho, Value.cells, h1, h2, h3, List.range_succ]

/-- m[k]. -/
theorem look_run {w : World} {M : Nat} {es : Array MapEntry} {clock : Nat} (hb : w.heap[M]? = some (.map es clock)) (hks : ∀ x ∈ es.toList, ∃ l, keyOf Try.prog 100 x.key = some l) (a b c : UInt8) :
    ((Instr.lookup 89 (.map (some M)) (k3 a b c) false).run Try.prog w = .ok (.slice none 0 0) w ∧ ∀ x ∈ es.toList, x.key ≠ k3 a b c) ∨
    ∃ (j : Nat) (e0 : MapEntry), es.toList[j]? = some e0 ∧ e0.key = k3 a b c ∧ (Instr.lookup 89 (.map (some M)) (k3 a b c) false).run Try.prog w = .ok e0.val w := by
  obtain ⟨kl, hkey⟩ := k3_key a b c
  have K := Try.law3
  rcases K.find w hkey es.toList hks with ⟨h1, h2⟩ | ⟨j, e0, h1, h2, h3⟩
  · refine .inl ⟨?_, h2⟩
    simp [Instr.lookup, run_underlying Try.underlying89, MapKept.run_getObj_map hb, K.check w es.isEmpty hkey, h1, Try.zeroInts, Result.andThen]
  · refine .inr ⟨j, e0, h2, h3, ?_⟩
    simp [Instr.lookup, run_underlying Try.underlying89, MapKept.run_getObj_map hb, K.check w es.isEmpty hkey, h1, Result.andThen]

open Go.ChangeMaps (setBlock heap_setBlock_same)
open Go.WideElems (findIdx_born findIdx_arr modify_last set_self)
/-- The entry of a key that there is not: a new one; its value is laid. -/
theorem entry_new {w : World} {M : Nat} {es : Array MapEntry} {clock : Nat} (hb : w.heap[M]? = some (.map es clock)) (hs : MapKept.Stamped es clock) (hks : ∀ x ∈ es.toList, ∃ l, keyOf Try.prog 100 x.key = some l) (a b c : UInt8) (hno : ∀ x ∈ es.toList, x.key ≠ k3 a b c) :
    (Instr.mapEntry 89 (.map (some M)) (k3 a b c)).run Try.prog w = .ok (.tuple #[.slice none 0 0, goInt clock]) (setBlock w M (.map (es.push ⟨k3 a b c, .slice none 0 0, clock⟩) (clock + 1))) ∧
    ∀ (w2 : World) (val : Value), w2.heap[M]? = some (.map (es.push ⟨k3 a b c, .slice none 0 0, clock⟩) (clock + 1)) → (Instr.entryStore 89 (.map (some M)) (goInt clock) val).run Try.prog w2 = .ok () (setBlock w2 M (.map (es.push ⟨k3 a b c, val, clock⟩) (clock + 1))) := by
  obtain ⟨kl, hkey⟩ := k3_key a b c
  have K := Try.law3
  obtain ⟨s1, s2, _⟩ := hs
  rcases K.find w hkey es.toList hks with ⟨h1, h2⟩ | ⟨j, e0, h1, h2, h3⟩
  · refine ⟨?_, fun w2 val hw2 => ?_⟩
    · simp [Instr.mapEntry, run_underlying Try.underlying89, MapKept.run_getObj_map hb, K.check w false hkey, h1, Try.zeroInts, MapKept.run_setObj_map _ hb, Result.andThen, setBlock]
    · have hidx : (es.push ⟨k3 a b c, .slice none 0 0, clock⟩).findIdx? (fun e => ((e.born : Nat) : Int) == ((clock : Nat) : Int)) = some es.size := by
        rw [findIdx_arr]
        refine findIdx_born (l := (es.push ⟨k3 a b c, .slice none 0 0, clock⟩).toList) (j := es.size) (e0 := ⟨k3 a b c, .slice none 0 0, clock⟩) ?_ (by simp)
        rw [Array.toList_push, List.map_append, List.nodup_append]
        refine ⟨s2, by simp, fun x hx y hy e1 => ?_⟩
        obtain ⟨z, hz, rfl⟩ := List.mem_map.1 hx
        have hlt := s1 z hz
        simp only [List.map_cons, List.map_nil, List.mem_singleton] at hy
        omega
      have hmod : (es.push ⟨k3 a b c, .slice none 0 0, clock⟩).modify es.size (fun e => { e with val := val }) = es.push ⟨k3 a b c, val, clock⟩ := by
        apply Array.ext'
        rw [Array.toList_modify, Array.toList_push, Array.toList_push, ← Array.length_toList, modify_last]
      simp [Instr.entryStore, MapKept.run_getObj_map hw2, asInt, asIntOf, goInt, hidx, hmod, MapKept.run_setObj_map _ hw2, Result.andThen, setBlock]
  · exact absurd h3 (hno e0 (List.mem_of_getElem? h2))
/-- The entry of a key that there is. -/
theorem entry_old {w : World} {M : Nat} {es : Array MapEntry} {clock : Nat} (hb : w.heap[M]? = some (.map es clock)) (hs : MapKept.Stamped es clock) (hks : ∀ x ∈ es.toList, ∃ l, keyOf Try.prog 100 x.key = some l) (a b c : UInt8) {j0 : Nat} {e1 : MapEntry} (he : es.toList[j0]? = some e1) (hk : e1.key = k3 a b c) :
    ∃ (j : Nat) (e0 : MapEntry), es.toList[j]? = some e0 ∧ e0.key = k3 a b c ∧ (Instr.mapEntry 89 (.map (some M)) (k3 a b c)).run Try.prog w = .ok (.tuple #[e0.val, goInt e0.born]) (setBlock w M (.map es clock)) ∧
    ∀ (w2 : World) (val : Value), w2.heap[M]? = some (.map es clock) → (Instr.entryStore 89 (.map (some M)) (goInt e0.born) val).run Try.prog w2 = .ok () (setBlock w2 M (.map (es.modify j (fun e => { e with val := val })) clock)) := by
  obtain ⟨kl, hkey⟩ := k3_key a b c
  have K := Try.law3
  obtain ⟨s1, s2, _⟩ := hs
  rcases K.find w hkey es.toList hks with ⟨h1, h2⟩ | ⟨j, e0, h1, h2, h3⟩
  · exact absurd hk (h2 e1 (List.mem_of_getElem? he))
  · have hj : es[j]? = some e0 := by simpa using h2
    have hsame : es.modify j (fun e => { e with key := k3 a b c }) = es := by
      apply Array.ext'
      rw [Array.toList_modify, ChangeMaps.modify_eq_set _ _ _ _ h2]
      rw [show ({ e0 with key := k3 a b c } : MapEntry) = e0 by rw [← h3]]
      exact set_self _ _ _ h2
    refine ⟨j, e0, h2, h3, ?_, fun w2 val hw2 => ?_⟩
    · simp [Instr.mapEntry, run_underlying Try.underlying89, MapKept.run_getObj_map hb, K.check w false hkey, h1, hj, h3, K.stays w hkey, hsame, MapKept.run_setObj_map _ hb, Result.andThen, setBlock]
    · have hidx : es.findIdx? (fun e => ((e.born : Nat) : Int) == ((e0.born : Nat) : Int)) = some j := by
        rw [findIdx_arr]
        exact findIdx_born s2 h2
      simp [Instr.entryStore, MapKept.run_getObj_map hw2, asInt, asIntOf, goInt, hidx, MapKept.run_setObj_map _ hw2, Result.andThen, setBlock]

end Go.Proofs.Ytdnbpklnkmgmkaa
