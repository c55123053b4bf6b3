/-
  A set out of its bytes: contracts of readCount, readLabel, Decode. Own text.
-/
import Derived.Test.YtcpkogboaniehaaLEnc
namespace Go.Proofs.Ytcpkogboaniehaa.Lab
open Go.RowKit Go Go.Proofs.Ytcpkogboaniehaa.Base Go.Shelf Go.Sort Go.Proofs.Ytcpkogboaniehaa.Enc

/-- a label that is read: its error, the label, where it ends -/
def lbE (s : ByteArray) (a : Int) : Nat := if txE s a ≠ 0 then txE s a else if txE s (txN s a : Int) ≠ 0 then txE s (txN s a : Int) else labE ⟨txS s a, txS s (txN s a : Int)⟩
def lbX (s : ByteArray) (a : Int) : Lab := if lbE s a = 0 then ⟨txS s a, txS s (txN s a : Int)⟩ else ⟨ByteArray.empty, ByteArray.empty⟩
def lbN (s : ByteArray) (a : Int) : Nat := if lbE s a = 0 then txN s (txN s a : Int) else 0
/-- the number that is read: its error, the number, where it ends -/
def rcE (s : ByteArray) (a : Int) : Nat := if rdE s a ≠ 0 then rdE s a else cntE (rdV s a)
def rcV (s : ByteArray) (a : Int) : Nat := if rcE s a = 0 then rdV s a else 0
def rcN (s : ByteArray) (a : Int) : Nat := if rcE s a = 0 then rdN s a else 0
/-- c labels that are read behind acc, the last of which has the name p -/
def decAux (s : ByteArray) : Nat → Nat → ByteArray → List Lab → List Lab × Nat × Nat
  | 0, a, _, acc => (acc, a, 0)
  | c + 1, a, p, acc => if lbE s (a : Int) ≠ 0 then ([], 0, lbE s (a : Int)) else if ¬ cmpS p (lbX s (a : Int)).n < 0 then ([], 0, 42) else decAux s c (lbN s (a : Int)) (lbX s (a : Int)).n (acc ++ [lbX s (a : Int)])
def decS (s : ByteArray) (a : Int) : List Lab × Nat × Nat := if rcE s a ≠ 0 then ([], 0, rcE s a) else decAux s (rcV s a) (rcN s a) ByteArray.empty []

theorem txS_size (s : ByteArray) (a : Int) : (txS s a).size ≤ s.size := by
  unfold txS
  split
  · rw [ByteArray.size_extract]; omega
  · show 0 ≤ _; omega
theorem two_set {w : World} {b : Nat} {x y : Value} (h0 : w.cell? ⟨b, 0, none⟩ = some x) (h1 : w.cell? ⟨b, 1, none⟩ = some y) (u v : Value) :
    ((w.setCell ⟨b, 0, none⟩ u).setCell ⟨b, 1, none⟩ v).cell? ⟨b, 0, none⟩ = some u ∧ ((w.setCell ⟨b, 0, none⟩ u).setCell ⟨b, 1, none⟩ v).cell? ⟨b, 1, none⟩ = some v := by
  refine ⟨?_, ?_⟩
  · rw [World.cell?_setCell_other _ _ _ _ (by simp)]
    exact World.cell?_setCell_same _ _ _ h0
  · exact World.cell?_setCell_same _ _ _ ((World.cell?_setCell_other _ _ _ _ (by simp)).trans h1)
theorem bcell {W w1 : World} (hb : Below W.heap.size W w1) : (∀ b o, b < W.heap.size → w1.cell? ⟨b, o, none⟩ = W.cell? ⟨b, o, none⟩) ∧ (∀ b o, b < W.heap.size → w1.frozen? ⟨b, o, none⟩ = W.frozen? ⟨b, o, none⟩) :=
  ⟨fun b o h => hb.cell (p := ⟨b, o, none⟩) h, fun b o h => hb.frozen (p := ⟨b, o, none⟩) h⟩

end Go.Proofs.Ytcpkogboaniehaa.Lab
