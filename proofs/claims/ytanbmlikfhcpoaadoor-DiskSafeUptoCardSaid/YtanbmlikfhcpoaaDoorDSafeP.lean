/-
  What is safe stays in front: files that are only added to, whatever is undone. Own text, without the program.
-/
import Derived.Test.YtanbmlikfhcpoaaDoorDFile
namespace Go.Proofs.YtanbmlikfhcpoaaDoor.Disk
open Go

def allAdd (l : List PStep) : Prop := ∀ s ∈ l, ∃ k, s = PStep.add k
theorem unitsOf_cons (s : PStep) (l : List PStep) : unitsOf (s :: l) = s.units + unitsOf l := by simp [unitsOf]

/-- bytes that are safe in front, and behind them as many as the steps say -/
structure Front (t : List Nat) (p : PF) : Prop where
  adds : allAdd p.steps
  bytes : ∃ e, p.bytes = t ++ e ∧ unitsOf p.steps = e.length

theorem Front.fresh (t : List Nat) : Front t ⟨t, []⟩ := ⟨fun s hs => (by cases hs), [], by simp, rfl⟩
theorem Front.add {t : List Nat} {p : PF} (h : Front t p) (x : List Nat) : Front t (p.add x) := by
  obtain ⟨e, h1, h2⟩ := h.bytes
  have hr : ∀ s ∈ p.steps.reverse, ∃ k, s = PStep.add k := fun s hs => h.adds s (List.mem_reverse.1 hs)
  have hu : unitsOf p.steps.reverse = e.length := by rw [← h2]; unfold unitsOf; rw [List.map_reverse, List.sum_reverse]
  unfold PF.add
  split
  · rename_i k r hk
    rw [hk] at hr hu
    rw [unitsOf_cons] at hu
    simp only [PStep.units] at hu
    refine ⟨fun s hs => ?_, e ++ x, by simp [h1], ?_⟩
    · simp only [List.reverse_cons, List.mem_append, List.mem_reverse, List.mem_singleton] at hs
      rcases hs with hs | hs
      · exact hr s (by simp [hs])
      · exact ⟨_, hs⟩
    · show unitsOf (PStep.add (k + x.length) :: r).reverse = _
      have : unitsOf (PStep.add (k + x.length) :: r).reverse = unitsOf (PStep.add (k + x.length) :: r) := by unfold unitsOf; rw [List.map_reverse, List.sum_reverse]
      rw [this, unitsOf_cons, List.length_append]
      simp only [PStep.units]
      omega
  · refine ⟨fun s hs => ?_, e ++ x, by simp [h1], ?_⟩
    · simp only [List.mem_append, List.mem_singleton] at hs
      rcases hs with hs | hs
      · exact h.adds s hs
      · exact ⟨_, hs⟩
    · show unitsOf (p.steps ++ [PStep.add x.length]) = _
      rw [unitsOf_append, unitsOf_cons, List.length_append]
      simp only [PStep.units, unitsOf, List.map_nil, List.sum_nil]
      unfold unitsOf at h2
      omega

theorem undo_front (t : List Nat) : ∀ (r : List PStep) (e : List Nat) (n : Nat), allAdd r → unitsOf r = e.length → n ≤ e.length → ∃ e', (undoR r (t ++ e) n).1 = t ++ e' ∧ (undoR r (t ++ e) n).2 = false
  | [], e, n, _, _, _ => ⟨e, rfl, rfl⟩
  | s :: r, e, n, ha, hu, hn => by
    obtain ⟨k, rfl⟩ := ha s (by simp)
    rw [unitsOf_cons] at hu
    simp only [PStep.units] at hu
    rw [undoR]
    by_cases h0 : n = 0
    · rw [if_pos h0]; exact ⟨e, rfl, rfl⟩
    · rw [if_neg h0]
      have hle : (t ++ e).length - min n k = t.length + (e.length - min n k) := by rw [List.length_append]; omega
      rw [hle, List.take_length_add_append]
      by_cases hk : n ≤ k
      · rw [show n - min n k = 0 by omega]
        cases r with
        | nil => exact ⟨_, rfl, rfl⟩
        | cons s2 r2 =>
          obtain ⟨k2, rfl⟩ := ha s2 (by simp)
          rw [undoR, if_pos rfl]
          exact ⟨_, rfl, rfl⟩
      · refine undo_front t r (e.take (e.length - min n k)) (n - min n k) (fun s hs => ha s (by simp [hs])) ?_ ?_
        · rw [List.length_take]; omega
        · rw [List.length_take]; omega
theorem Front.keep {t : List Nat} {p : PF} (h : Front t p) (left : Nat) (z : Bool) : ∃ e, (p.keep left z).bytes = t ++ e := by
  obtain ⟨e, h1, h2⟩ := h.bytes
  have hu : unitsOf p.steps.reverse = e.length := by rw [← h2]; unfold unitsOf; rw [List.map_reverse, List.sum_reverse]
  obtain ⟨e', h3, h4⟩ := undo_front t p.steps.reverse e (unitsOf p.steps - left) (fun s hs => h.adds s (List.mem_reverse.1 hs)) hu (by omega)
  unfold PF.keep
  simp only [h1, h3, h4]
  split
  · exact ⟨e' ++ List.replicate (unitsOf p.steps - left) 0, by rw [List.append_assoc]⟩
  · exact ⟨e', rfl⟩
theorem good_adds (B : Nat) (t : List Nat) : ∀ (r : List PStep) (e : List Nat), allAdd r → unitsOf r = e.length → okB B (t ++ e) → Good B r (t ++ e)
  | [], _, _, _, h => h
  | s :: r, e, ha, hu, h => by
    obtain ⟨k, rfl⟩ := ha s (by simp)
    rw [unitsOf_cons] at hu
    simp only [PStep.units] at hu
    refine ⟨h, by rw [List.length_append]; omega, ?_⟩
    have hle : (t ++ e).length - k = t.length + (e.length - k) := by rw [List.length_append]; omega
    have hk := h.take ((t ++ e).length - k)
    rw [hle, List.take_length_add_append] at hk ⊢
    exact good_adds B t r (e.take (e.length - k)) (fun s hs => ha s (by simp [hs])) (by rw [List.length_take]; omega) hk
theorem Front.good {t : List Nat} {p : PF} {B : Nat} (h : Front t p) (hb : okB B p.bytes) : p.Good B := by
  obtain ⟨e, h1, h2⟩ := h.bytes
  have hu : unitsOf p.steps.reverse = e.length := by rw [← h2]; unfold unitsOf; rw [List.map_reverse, List.sum_reverse]
  unfold PF.Good
  rw [h1] at hb ⊢
  exact good_adds B t _ e (fun s hs => h.adds s (List.mem_reverse.1 hs)) hu hb

end Go.Proofs.YtanbmlikfhcpoaaDoor.Disk
