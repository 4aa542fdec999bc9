import Derived.Test.YtmklodligplbaaaGreatL18sm
open Go.RowKit
set_option linter.unusedVariables false
set_option linter.unusedSimpArgs false
set_option maxRecDepth 100000
set_option maxHeartbeats 51200000
namespace Go.Proofs.YtmklodligplbaaaGreat
open Dlt
theorem wpList_buildOne {ops : Array Oper} {rest : List Oper} {o : Oper} {a : Act} {w : World} {Q : Exit -> Act -> World -> Prop} (hgd : o.guard = none) (t : TypeId) (x : Operand) (ho : o.op = .buildSlice t 1 #[(0, x)]) (u : Value) (hx : a.eval x = u) {v : Value} {w' : World} (hrun : (Instr.buildSlice t 1 #[(0, u)]).run Tryz.prog w = .ok v w')
  (h : wpList Tryz.prog ops Q rest (a.put o.dst v) w') : wpList Tryz.prog ops Q (o :: rest) a w := wpList_buildTwo8 hgd t 1 #[(0, x)] ho #[(0, u)] (by simp [hx]) hrun h
end Go.Proofs.YtmklodligplbaaaGreat
