/-
  A list of fields as it comes in: its cells, index by index. Own text.
-/
import Derived.Test.YtmenhgdedllioaaLaw
namespace Go.Proofs.Ytmenhgdedllioaa.Bits
open Go.ChangeShapes Go.WideShapes Go.ChangeAt Go.RowKit Go.Deep Go

/-- the cells of a list of fields (nil: it is empty) -/
def FieldsAt (w : World) (ao : Option Addr) (len : Nat) (V N : Nat → Int) : Prop :=
  ∀ j, j < len → ∃ b off, ao = some ⟨b, off, none⟩ ∧ b < w.heap.size ∧ w.cell? ⟨b, off + j * 2, none⟩ = some (.int .u64 (V j)) ∧ w.cell? ⟨b, off + j * 2 + 1, none⟩ = some (.int .i64 (N j)) ∧
    0 ≤ V j ∧ V j < 18446744073709551616

theorem bytes_field : Try.prog.bytesOf 29 = 16 := by kernel_rfl

section
variable {H : Type} {enc : TypeId × Value → H} {w : World} {base : Nat}

theorem open_fields {fuel : Nat} {v : Value} {x : DataW H × List MemPlace} (h : DataW.trod enc Try.prog w base (fun _ => true) true fuel 22 [v] = some x) :
    ∃ ao len cap V N, v = .slice ao len cap ∧ FieldsAt w ao len V N ∧ (x.1 = .nil ∧ len = 0 ∨ ∃ elems spare, x.1 = .slice elems spare ∧ elems.length = len) := by
  rcases open_slice_pairs Try.underlying22 Try.underlying29 (by kernel_rfl) rfl rfl (by kernel_rfl) (by kernel_rfl) h with ⟨hv, hx⟩ | ⟨a, len, cap, m, n, V0, V1, D0, D1, P0, P1, hv, hb, hl, hm, hmm, hx, hi⟩
  · injection hv with hv _
    subst hv
    exact ⟨none, 0, 0, fun _ => 0, fun _ => 0, rfl, fun j hj => by omega, .inl ⟨by rw [hx], rfl⟩⟩
  · injection hv with hv _
    subst hv
    have hlm : len ≤ m := by rw [hmm]; split <;> omega
    refine ⟨some a, len, cap, fun j => intOf (V0 j), fun j => intOf (V1 j), rfl, ?_, .inr ⟨_, _, by rw [hx], by simp⟩⟩
    intro j hj
    obtain ⟨c0, c1, t0, t1⟩ := hi j (by omega)
    obtain ⟨b, off, spot⟩ := a
    have hspot : spot = none := by
      have h0 := (hi 0 (by omega)).1
      simpa [Addr.add] using World.cell?_spot h0
    subst hspot
    rw [Go.WideShapes.add_plain] at c0 c1
    obtain ⟨n0, e0, _, w0⟩ := DataW.trod_int Try.underlying27 t0
    obtain ⟨n1, e1, _, w1⟩ := DataW.trod_int Try.underlying3 t1
    have e0' : V0 j = .int .u64 n0 := by simpa using e0
    have e1' : V1 j = .int .i64 n1 := by simpa using e1
    have hn : 0 ≤ n0 ∧ n0 ≤ 18446744073709551615 := by simpa [Lit.wf, IntKind.min, IntKind.max, IntKind.signed, IntKind.bits] using w0
    refine ⟨b, off, rfl, World.block_lt_of_cell? w _ c0, ?_, ?_, ?_, ?_⟩
    · simp only [c0, e0', intOf]
    · simp only [Nat.add_assoc, c1, e1', intOf]
    · simp only [e0', intOf]; exact hn.1
    · simp only [e0', intOf]; omega
end
end Go.Proofs.Ytmenhgdedllioaa.Bits
