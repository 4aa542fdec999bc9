import Derived.Test.YtngaimahhgmciaaGreatDoorQ9os
namespace Go.Proofs.YtngaimahhgmciaaGreatDoor
open Go.RowKit Go.Lib Go.Sort
set_option linter.unusedVariables false
set_option linter.unusedSimpArgs false
set_option maxRecDepth 100000 in
theorem Tryz.buildRes9 (f g : Nat → UInt8) (k : Int) (w : World) : (Instr.build 30 #[(0, .agg (bys ((List.range 32).map f)).toArray), (1, .agg (bys ((List.range 32).map g)).toArray), (2, .int .i64 k)]).run Tryz.prog w = .ok (.agg (bys ((List.range 32).map f) ++ (bys ((List.range 32).map g) ++ [Value.int .i64 k])).toArray) w := by kernel_rfl
theorem build_res9 (z : Rz) (w : World) : (Instr.build 30 #[(0, .agg (bys z.act).toArray), (1, .agg (bys z.root).toArray), (2, .int .i64 z.code)]).run Tryz.prog w = .ok (.agg z.cells.toArray) w := by
 have h := Tryz.buildRes9 (fun k => z.act.getD k 0) (fun k => z.root.getD k 0) z.code w
 rw [range32i z.ha, range32i z.hr] at h
 exact h
set_option maxRecDepth 100000 in
theorem fillZ65 (f g : Nat → UInt8) (k : Int) : Instr.fill (fun i => some (i * 65, 65)) ((Array.range (1 * 65)).map ((Value.agg zeroRz).cells[· % (Value.agg zeroRz).cells.size]!)) [(0, .agg (bys ((List.range 32).map f) ++ (bys ((List.range 32).map g) ++ [Value.int .i64 k])).toArray)] = some (bys ((List.range 32).map f) ++ (bys ((List.range 32).map g) ++ [Value.int .i64 k])).toArray := by kernel_rfl
theorem fillZ (z : Rz) : Instr.fill (fun i => some (i * 65, 65)) ((Array.range (1 * 65)).map ((Value.agg zeroRz).cells[· % (Value.agg zeroRz).cells.size]!)) [(0, .agg z.cells.toArray)] = some z.cells.toArray := by
 have := fillZ65 (fun k => z.act.getD k 0) (fun k => z.root.getD k 0) z.code
 rw [range32i z.ha, range32i z.hr] at this
 exact this
theorem wp_buildZ {o : Oper} {a : Act} {w : World} {K : Act → World → Prop} {Q : Exit → Act → World → Prop} (x : Operand) (ho : o.op = .buildSlice 23 1 #[(0, x)]) (z : Rz) (hx : a.eval x = .agg z.cells.toArray)
  (h : K (a.put o.dst (.slice (some ⟨w.heap.size, 0, none⟩) 1 1)) (w.alloc (.cells z.cells.toArray 30))) : o.wp Tryz.prog a w K Q := by
 obtain ⟨i0, hi0, hx0⟩ := Option.map_eq_some_iff.1 Tryz.infoRz9
 injection hx0 with hz1 hx0
 injection hx0 with hz2 hz0
 refine wp_buildSlice 23 30 1 #[(0, x)] ho z.cells.toArray i0 (.agg zeroRz) Tryz.underlying23 hi0 hz0 (by rw [hz1]; decide) (by rw [hz1]; decide) ?_ h
 rw [hz1]
 have : (#[(0, x)].map fun (i, x) => (i, a.eval x)).toList = [(0, .agg z.cells.toArray)] := by simp [hx]
 rw [this]
 exact fillZ z
theorem wpList_buildZ {ops : Array Oper} {rest : List Oper} {o : Oper} {a : Act} {w : World} {Q : Exit → Act → World → Prop} (hg : o.guard = none) (x : Operand) (ho : o.op = .buildSlice 23 1 #[(0, x)]) (z : Rz) (hx : a.eval x = .agg z.cells.toArray)
  (h : wpList Tryz.prog ops Q rest (a.put o.dst (.slice (some ⟨w.heap.size, 0, none⟩) 1 1)) (w.alloc (.cells z.cells.toArray 30))) : wpList Tryz.prog ops Q (o :: rest) a w :=
 wpList_plain hg fun _ hK => wp_buildZ x ho z hx (hK _ _ h)
def idk (k : Nat) : List UInt8 := UInt8.ofNat k :: List.replicate 31 0
theorem idk_len (k : Nat) : (idk k).length = 32 := by simp [idk]
theorem Tryz.buildIdk (x : Int) (w : World) : (Instr.build 25 #[(0, .int .u8 x)]).run Tryz.prog w = .ok (.agg (Value.int .u8 x :: List.replicate 31 (.int .u8 0)).toArray) w := by kernel_rfl
theorem wrap_idk (k : Nat) : IntKind.u8.wrap (k : Int) = ((UInt8.ofNat k).toNat : Int) := by
 rw [UInt8.toNat_ofNat']
 simp [IntKind.wrap, IntKind.min, IntKind.max, IntKind.bits, IntKind.signed]
theorem build_idk (k : Nat) (w : World) : (Instr.build 25 #[(0, .int .u8 ((UInt8.ofNat k).toNat : Int))]).run Tryz.prog w = .ok (.agg (bys (idk k)).toArray) w := Tryz.buildIdk _ w
def rzk9 (k : Nat) (rt : List UInt8) (h : rt.length = 32) : Rz := ⟨idk k, rt, 300 + (k : Int), idk_len k, h⟩
theorem rz_root_at {w : World} {b off : Nat} {z : Rz} (h : w.rangeAt b off z.cells) : w.rangeAt b (off + 32) (bys z.root) := fun jj v hv => by
 have h1 := h (32 + jj) v (by
  unfold Rz.cells
  rw [List.getElem?_append_right (by rw [bys_length, z.ha]; omega), bys_length, z.ha, show 32 + jj - 32 = jj by omega, List.getElem?_append_left (List.getElem?_eq_some_iff.1 hv).1]
  exact hv)
 rwa [← Nat.add_assoc] at h1
end Go.Proofs.YtngaimahhgmciaaGreatDoor
