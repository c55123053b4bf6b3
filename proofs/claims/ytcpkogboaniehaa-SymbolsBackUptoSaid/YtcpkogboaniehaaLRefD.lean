/-
  A set out of its bytes: contract of the document's Decode. Own text.
-/
import Derived.Test.YtcpkogboaniehaaLDec2
namespace Go.Proofs.Ytcpkogboaniehaa.Lab
open Go.RowKit Go Go.Proofs.Ytcpkogboaniehaa.Base Go.Shelf Go.Sort Go.Proofs.Ytcpkogboaniehaa.Enc

theorem lb_one {s : ByteArray} {a : Int} (h : txE s a ≠ 0) : lbE s a = txE s a := by unfold lbE; rw [if_pos h]
theorem lb_two {s : ByteArray} {a : Int} (h : txE s a = 0) (h2 : txE s (txN s a : Int) ≠ 0) : lbE s a = txE s (txN s a : Int) := by unfold lbE; rw [if_neg (fun k => k h), if_pos h2]
theorem lb_lab {s : ByteArray} {a : Int} (h : txE s a = 0) (h2 : txE s (txN s a : Int) = 0) : lbE s a = labE ⟨txS s a, txS s (txN s a : Int)⟩ := by unfold lbE; rw [if_neg (fun k => k h), if_neg (fun k => k h2)]
theorem lb_x {s : ByteArray} {a : Int} (h : lbE s a = 0) : lbX s a = ⟨txS s a, txS s (txN s a : Int)⟩ ∧ lbN s a = txN s (txN s a : Int) := by
  unfold lbX lbN; rw [if_pos h, if_pos h]; exact ⟨rfl, rfl⟩
theorem cmp_empty {n : ByteArray} (h : 1 ≤ n.size) : cmpS ByteArray.empty n < 0 := by
  unfold cmpS
  cases hh : lst n with
  | nil =>
    have : n.size = 0 := by
      have := congrArg List.length hh
      simpa [lst] using this
    omega
  | cons x r => exact (by decide : (-1 : Int) < 0)

end Go.Proofs.Ytcpkogboaniehaa.Lab
