/-
  What a call may turn: a set of blocks, and new ones. Own text.
-/
import Derived.Test.YtanbmlikfhcpoaaDoorBase
namespace Go.Proofs.YtanbmlikfhcpoaaDoor
open Go.RowKit Go

structure Turn (S : Nat → Prop) (w w' : World) : Prop where
  os : w'.os = w.os
  tape : w'.tape = w.tape
  output : w'.output = w.output
  size : w.heap.size ≤ w'.heap.size
  block : ∀ k, k < w.heap.size → ¬ S k → w'.heap[k]? = w.heap[k]?

namespace Turn
variable {S S' : Nat → Prop} {w w' w'' : World}

theorem refl (S : Nat → Prop) (w : World) : Turn S w w := ⟨rfl, rfl, rfl, Nat.le_refl _, fun _ _ _ => rfl⟩

theorem trans (h : Turn S w w') (k : Turn S' w' w'') (hs : ∀ i, i < w.heap.size → S' i → S i) : Turn S w w'' :=
  ⟨k.os.trans h.os, k.tape.trans h.tape, k.output.trans h.output, Nat.le_trans h.size k.size, fun i hi hn => (k.block i (Nat.lt_of_lt_of_le hi h.size) (fun h' => hn (hs i hi h'))).trans (h.block i hi hn)⟩

theorem mono (h : Turn S w w') (hs : ∀ i, i < w.heap.size → S i → S' i) : Turn S' w w' := ⟨h.os, h.tape, h.output, h.size, fun i hi hn => h.block i hi (fun h' => hn (hs i hi h'))⟩

theorem of_below (h : Below w.heap.size w w') : Turn S w w' := ⟨h.os, h.tape, h.output, h.size, fun i hi _ => h.block i hi⟩

theorem of_grown {row : Option Nat} (h : w.grownBy w' row) (hs : ∀ k, row = some k → S k) : Turn S w w' :=
  ⟨h.os, h.tape, h.output, h.size, fun i hi hn => h.block i hi (fun e => hn (hs i e.symm))⟩

theorem drew (h : Turn S w w') (n : Nat) : Turn S w (w'.drewN n) := ⟨h.os, h.tape, h.output, h.size, h.block⟩
theorem of_drew (n : Nat) : Turn S w (w.drewN n) := (refl S w).drew n

theorem alloc (h : Turn S w w') (o : Obj) : Turn S w (w'.alloc o) :=
  h.trans (of_below (Base.below_alloc w' o) : Turn S w' _) (fun _ _ h => h)

theorem set (h : Turn S w w') (p : Addr) (u : Value) (hp : p.block < w.heap.size → S p.block) : Turn S w (w'.setCell p u) :=
  ⟨h.os, h.tape, h.output, by simpa [World.setCell] using h.size, fun i hi hn => by
    rw [Below.heap_setCell _ _ _ _ (fun e => by subst e; exact hn (hp hi))]
    exact h.block i hi hn⟩

theorem cell (h : Turn S w w') {p : Addr} {v : Value} (hc : w.cell? p = some v) (hn : ¬ S p.block) : w'.cell? p = some v := by
  rw [World.cell?_of_block (w := w) (h.block p.block (World.block_lt_of_cell? w p hc) hn)]
  exact hc

theorem below (h : Turn S w w') {B : Nat} (hB : B ≤ w.heap.size) (hs : ∀ i, i < B → ¬ S i) : Below B w w' :=
  ⟨h.os, h.tape, h.output, h.size, fun i hi => h.block i (Nat.lt_of_lt_of_le hi hB) (hs i hi)⟩

end Turn
end Go.Proofs.YtanbmlikfhcpoaaDoor
