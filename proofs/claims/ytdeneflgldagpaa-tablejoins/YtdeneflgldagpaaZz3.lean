/-
  Contract: freightlaw8.other.
-/
import Derived.Test.YtdeneflgldagpaaZz
import Derived.OpenShut
namespace Go.Proofs.Ytdeneflgldagpaa
open Go.RowKit Go.Sort
set_option linter.unusedVariables false
set_option linter.unusedSimpArgs false

namespace Tb
/-- The same results, the last one with another Code. -/
def flip (e : Res) : Res := e.coded (bits .xor .i64 e.code 1) (wf_bits .xor .i64 e.code 1)
def twin (L : List Res) : List Res := L.set (L.length - 1) (flip (L.getD (L.length - 1) res0))
theorem twin_len (L : List Res) : (twin L).length = L.length := by simp [twin]
end Tb

set_option maxHeartbeats 1600000 in
set_option maxRecDepth 100000 in
theorem other_ok (ao : Option Addr) (n cap : Nat) (L : List Res) (w : World) (hn : L.length = n) (hL : Ress w ao L) (hw : Wao ao) (hnl : ao = none → cap = 0) (hm : n * 72 ≤ 140737488351232) (h0 : 0 < n) :
    Calls Try.prog 16 #[.slice ao n cap] w fun r w' => ∃ g c, r = .returned (.slice (some ⟨g, 0, none⟩) n c) ∧ n ≤ c ∧ w.heap.size ≤ g ∧ Ress w' (some ⟨g, 0, none⟩) (Tb.twin L) ∧ Kept [] w w' := by
  have kN : Kept [] w (w.alloc (.cells #[] 39)) := (Kept.refl [] w).alloc _
  have ho : OwnR (w.alloc (.cells #[] 39)) w.heap.size (.slice (some ⟨w.heap.size, 0, none⟩) 0 0) [] := World.ownsRow_made w #[] 0 (Nat.le_refl _) (Nat.zero_le _) (by simp)
  obtain ⟨v, w2, hrun, ho2, hk2, hb2⟩ := run_appR (w.alloc (.cells #[] 39)) w.heap.size _ [] ho ao n cap L (hL.kept kN (by simp)) hn hw hnl (by simp; omega) kN.size
  rw [List.nil_append] at ho2
  obtain ⟨ao', c, rfl, hcap, hR, hao, _⟩ := ho2.ress
  obtain ⟨g, o, rfl, hgl, hr⟩ := hR.open (by rintro rfl; simp at hn; omega)
  obtain ⟨g', eg, hbase, _, _⟩ := hao _ rfl
  cases eg
  rw [hn] at hrun ho2
  obtain ⟨m, hmn⟩ : ∃ m, n = m + 1 := ⟨n - 1, by omega⟩
  have hrm := hr m (by omega)
  rw [Nat.zero_add] at hrm
  have cc := hrm 64 _ (Res.cod _)
  obtain ⟨cd, hcd⟩ : ∃ cd, (L.getD m res0).code = cd := ⟨_, rfl⟩
  rw [hcd] at cc
  obtain ⟨cur, hcur, y1, y2, y3, hcs, y4, y5⟩ := OwnR.row ho2
  have tt : w2.there g 0 (n * 65) := there_row hcur 0 (n * 65) (by rw [hcs]; omega)
  have ff := (tt (m * 65 + 64) (by omega)).2
  rw [Nat.zero_add] at ff
  have em : (n : Int) - 1 = (m : Int) := by omega
  have wm : IntKind.i64.wrap (m : Int) = (m : Int) := by rw [IntKind.wrap_i64]; omega
  have hmlt : m < n := by omega
  have hpos : 0 < (n : Int) := by omega
  have HT : Hid (Tb.twin L = L.set m (Tb.flip (L.getD m res0))) := by show _ = _; unfold Tb.twin; rw [hn, show n - 1 = m by omega]
  have HR : Hid (Ress (w2.setCell ⟨g, m * 65 + 64, none⟩ (.int .i64 (bits .xor .i64 cd 1))) (some ⟨g, 0, none⟩) (Tb.twin L)) := by
    have := Ress.code hR (k := m) (by omega) (there_mid tt m 1 (by omega)) (bits .xor .i64 cd 1) (wf_bits .xor .i64 cd 1)
    rw [HT.out]
    unfold Tb.flip
    subst hcd
    exact this
  have HK : Hid (Kept [] w (w2.setCell ⟨g, m * 65 + 64, none⟩ (.int .i64 (bits .xor .i64 cd 1))) ∧ n ≤ c ∧ w.heap.size ≤ g) := by
    have k1 := hk2 [w.heap.size] (by simp [Value.ownBlock])
    exact ⟨((kN.trans k1 (by simp)).setCell (fun h => by simp at h; omega) _), by omega, hbase⟩
  clear y1 y2 y3 y4 y5
  have HCD := hide hcd
  have HN := hide hn
  clear hcur hcs tt ho hR hao hr hrm hL hw ho2 hmn hk2 hb2 hcd hn hnl hcap hgl hbase kN
  go_enter Try.func16, Try.ntmps16
  go_upto_region 2 with (refine wpList_app_run rfl (.tmp 4) (.tmp 5) 22 22 rfl (.slice (some ⟨w.heap.size, 0, none⟩) 0 0) (.slice ao n cap) rfl rfl (.slice (some ⟨g, 0, none⟩) n c) w2 hrun ?_)
  clear hrun
  go_upto_region 4 with (fail)
  go_wp2
  go_ret
  exact ⟨g, c, rfl, HK.out.2.1, HK.out.2.2, HR.out, HK.out.1⟩

/-- append of nothing, at whatever address. -/
theorem run_app0 (w : World) (base : Nat) (v : Value) (L : List Res) (h : OwnR w base v L) (ao : Option Addr) (c : Nat) (hnil : ao = none → c = 0) (hb : base ≤ w.heap.size) (hl : L.length * 72 ≤ 140737488355328) :
    ∃ v' w', (Builtin.append_ #[22, 22] 22 #[v, .slice ao 0 c]).run Try.prog w = .ok v' w' ∧ OwnR w' base v' L ∧ (∀ l, (∀ g, v.ownBlock = some g → g ∈ l) → Kept l w w') := by
  obtain ⟨i0, hi, hz0, hz1, hz2⟩ := info_parts Try.infoRes
  cases ao with
  | none =>
    obtain rfl := hnil rfl
    exact ⟨v, w, run_append_owned_none (P := Try.prog) (w := w) base 22 22 39 i0 65 Try.underlying22 hi v L.length (rows L) h, h, fun l _ => Kept.refl l w⟩
  | some a =>
    obtain ⟨v', w', hrun, h1', h2, h3, h4⟩ := run_append_own_at (P := Try.prog) w base 22 22 39 i0 (.agg zeroR) 65 72 Try.underlying22 hi hz0 hz1 hz2 rfl (by omega) v L.length (rows L) h a 0 c [] rfl (by simp) (by simp) (by unfold maxLen; omega) (by omega) hb
    refine ⟨v', w', hrun, ?_, fun l hl2 => (Kept.refl l w).grown h2 (fun k hk _ => hl2 k hk)⟩
    rw [List.append_nil, Nat.add_zero] at h1'
    exact h1'

set_option maxHeartbeats 1600000 in
set_option maxRecDepth 100000 in
theorem other_none (ao : Option Addr) (cap : Nat) (w : World) (hnl : ao = none → cap = 0) :
    Calls Try.prog 16 #[.slice ao 0 cap] w fun r w' => ∃ bo c, r = .returned (.slice bo 0 c) ∧ Kept [] w w' := by
  have kN : Kept [] w (w.alloc (.cells #[] 39)) := (Kept.refl [] w).alloc _
  have ho : OwnR (w.alloc (.cells #[] 39)) w.heap.size (.slice (some ⟨w.heap.size, 0, none⟩) 0 0) [] := World.ownsRow_made w #[] 0 (Nat.le_refl _) (Nat.zero_le _) (by simp)
  obtain ⟨v, w2, hrun, ho2, hk2⟩ := run_app0 (w.alloc (.cells #[] 39)) w.heap.size _ [] ho ao cap hnl kN.size (by simp)
  obtain ⟨bo, c, hv, _⟩ := ho2.ress
  obtain rfl : v = .slice bo 0 c := hv
  have HK : Hid (Kept [] w w2) := kN.trans (hk2 [w.heap.size] (by simp [Value.ownBlock])) (by simp)
  clear ho ho2 hk2 hnl kN
  go_enter Try.func16, Try.ntmps16
  go_upto_region 2 with (refine wpList_app_run rfl (.tmp 4) (.tmp 5) 22 22 rfl (.slice (some ⟨w.heap.size, 0, none⟩) 0 0) (.slice ao 0 cap) rfl rfl (.slice bo 0 c) w2 hrun ?_)
  clear hrun
  go_wp2
  go_ret
  exact ⟨bo, c, rfl, HK.out⟩
end Go.Proofs.Ytdeneflgldagpaa
