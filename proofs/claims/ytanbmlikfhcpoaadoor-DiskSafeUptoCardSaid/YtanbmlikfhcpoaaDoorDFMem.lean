/-
  A file of the disk in memory; its units. Own text.
-/
import Derived.Test.YtanbmlikfhcpoaaDoorDTurn
import Derived.Test.YtanbmlikfhcpoaaDoorDRow
import Derived.Test.YtanbmlikfhcpoaaDoorDFile
namespace Go.Proofs.YtanbmlikfhcpoaaDoor.Disk
open Go.RowKit Go Go.Proofs.YtanbmlikfhcpoaaDoor.Base

def encStep : PStep → List Value
  | .cut t => [.bool true, .string (strN t), .int .i64 0]
  | .add n => [.bool false, .string ⟨#[]⟩, .int .i64 (n : Int)]
def encSteps (l : List PStep) : List Value := l.flatMap encStep

theorem encStep_length (s : PStep) : (encStep s).length = 3 := by cases s <;> rfl
theorem encSteps_length (l : List PStep) : (encSteps l).length = l.length * 3 := by
  induction l with
  | nil => rfl
  | cons s r ih => unfold encSteps at *; rw [List.flatMap_cons, List.length_append, ih, encStep_length, List.length_cons]; omega
theorem encSteps_append (l m : List PStep) : encSteps (l ++ m) = encSteps l ++ encSteps m := by simp [encSteps]
theorem encSteps_at (l : List PStep) (j : Nat) (hj : j < l.length) (c : Nat) (hc : c < 3) : (encSteps l)[j * 3 + c]? = (encStep (l[j]'hj))[c]? := by
  induction l generalizing j with
  | nil => simp at hj
  | cons s r ih =>
    have e : encSteps (s :: r) = encStep s ++ encSteps r := by simp [encSteps]
    rw [e]
    cases j with
    | zero => rw [List.getElem?_append_left (by rw [encStep_length]; omega)]; simp
    | succ j =>
      rw [List.getElem?_append_right (by rw [encStep_length]; omega), encStep_length, show (j + 1) * 3 + c - 3 = j * 3 + c from by omega]
      simp only [List.length_cons] at hj
      rw [ih j (by omega)]
      simp

/-- a file, in memory: its block, what its two slices are -/
structure FileAt (w : World) (fb : Nat) (bv sv : Value) (p : PF) : Prop where
  cells : w.heap[fb]? = some (.cells #[bv, sv] 58)
  bytes : w.ownsRow 0 5 1 bv p.bytes.length (u8s p.bytes)
  steps : w.ownsRow 0 81 3 sv p.steps.length (encSteps p.steps)

def fileOwn (fb : Nat) (bv sv : Value) : Nat → Prop := fun k => k = fb ∨ bv.ownBlock = some k ∨ sv.ownBlock = some k

theorem FileAt.lt {w : World} {fb : Nat} {bv sv : Value} {p : PF} (h : FileAt w fb bv sv p) : fb < w.heap.size := (Array.getElem?_eq_some_iff.1 h.cells).1
theorem FileAt.cell0 {w : World} {fb : Nat} {bv sv : Value} {p : PF} (h : FileAt w fb bv sv p) : w.cell? ⟨fb, 0, none⟩ = some bv := by rw [cell_of_row w fb 0 _ _ _ h.cells]; rfl
theorem FileAt.cell1 {w : World} {fb : Nat} {bv sv : Value} {p : PF} (h : FileAt w fb bv sv p) : w.cell? ⟨fb, 1, none⟩ = some sv := by rw [cell_of_row w fb 1 _ _ _ h.cells]; rfl
theorem FileAt.fro {w : World} {fb : Nat} {bv sv : Value} {p : PF} (h : FileAt w fb bv sv p) (i : Nat) : w.frozen? ⟨fb, i, none⟩ = false := by
  simp [World.frozen?, h.cells]

theorem row_of_block {w w' : World} {e : TypeId} {size : Nat} {v : Value} {n : Nat} {xs : List Value} (h : w.ownsRow 0 e size v n xs) (hb : ∀ k, v.ownBlock = some k → w'.heap[k]? = w.heap[k]?) : w'.ownsRow 0 e size v n xs := by
  refine ⟨h.1, ?_⟩
  rcases h.2 with h2 | ⟨g, cap, cur, rfl, h1, h2, h3⟩
  · exact .inl h2
  · exact .inr ⟨g, cap, cur, rfl, h1, (hb g rfl).trans h2, h3⟩

theorem row_lt {w : World} {e : TypeId} {size : Nat} {v : Value} {n : Nat} {xs : List Value} (h : w.ownsRow 0 e size v n xs) {k : Nat} (hk : v.ownBlock = some k) : k < w.heap.size := (h.lt k hk).2

theorem row_turn {S : Nat → Prop} {w w' : World} {e : TypeId} {size : Nat} {v : Value} {n : Nat} {xs : List Value} (h : w.ownsRow 0 e size v n xs) (ht : Turn S w w') (hn : ∀ k, v.ownBlock = some k → ¬ S k) : w'.ownsRow 0 e size v n xs :=
  row_of_block h fun k hk => ht.block k (row_lt h hk) (hn k hk)

theorem FileAt.turn {S : Nat → Prop} {w w' : World} {fb : Nat} {bv sv : Value} {p : PF} (h : FileAt w fb bv sv p) (ht : Turn S w w') (hn : ∀ k, fileOwn fb bv sv k → ¬ S k) : FileAt w' fb bv sv p :=
  ⟨(ht.block fb h.lt (hn fb (.inl rfl))).trans h.cells, row_turn h.bytes ht fun k hk => hn k (.inr (.inl hk)), row_turn h.steps ht fun k hk => hn k (.inr (.inr hk))⟩

/-- the blocks of a file are of different kinds -/
theorem row_cells {w : World} {e : TypeId} {size : Nat} {v : Value} {n : Nat} {xs : List Value} (h : w.ownsRow 0 e size v n xs) {k : Nat} (hk : v.ownBlock = some k) : ∃ cur, w.heap[k]? = some (.cells cur e (0, 0)) := by
  rcases h.2 with ⟨rfl, _⟩ | ⟨g, cap, cur, rfl, _, h2, _⟩
  · cases hk
  · simp only [Value.ownBlock, Option.some.injEq] at hk
    subst hk
    exact ⟨cur, h2⟩

theorem FileAt.apart {w : World} {fb : Nat} {bv sv : Value} {p : PF} (h : FileAt w fb bv sv p) : bv.ownBlock ≠ some fb ∧ sv.ownBlock ≠ some fb ∧ ∀ k, bv.ownBlock = some k → sv.ownBlock ≠ some k := by
  refine ⟨fun e => ?_, fun e => ?_, fun k e1 e2 => ?_⟩
  · obtain ⟨cur, hc⟩ := row_cells h.bytes e
    rw [h.cells] at hc; simp at hc
  · obtain ⟨cur, hc⟩ := row_cells h.steps e
    rw [h.cells] at hc; simp at hc
  · obtain ⟨c1, h1⟩ := row_cells h.bytes e1
    obtain ⟨c2, h2⟩ := row_cells h.steps e2
    rw [h1] at h2; simp at h2

/-- a step read out of its row -/
theorem step_at {w : World} {sv : Value} {l : List PStep} (h : w.ownsRow 0 81 3 sv l.length (encSteps l)) (hne : l ≠ []) :
    ∃ g cap, sv = .slice (some ⟨g, 0, none⟩) l.length cap ∧ g < w.heap.size ∧ ∀ j (hj : j < l.length) c, c < 3 → w.cell? ⟨g, j * 3 + c, none⟩ = (encStep (l[j]'hj))[c]? := by
  rcases h.2 with ⟨_, h0⟩ | ⟨g, cap, cur, rfl, h1, h2, h3⟩
  · exact absurd (List.eq_nil_of_length_eq_zero h0) hne
  · refine ⟨g, cap, rfl, (Array.getElem?_eq_some_iff.1 h2).1, fun j hj c hc => ?_⟩
    rw [← encSteps_at l j hj c hc]
    have hlt : j * 3 + c < (encSteps l).length := by rw [encSteps_length]; omega
    have := h.cells (g := g) rfl (j * 3 + c) _ (List.getElem?_eq_getElem hlt)
    rw [Go.WideShapes.add_plain] at this
    simp only [Nat.zero_add] at this
    rw [this, List.getElem?_eq_getElem hlt]

theorem stepUnits_any (s : PStep) (w : World) : Calls Tryd.prog 47 #[.agg (encStep s).toArray] w fun e w' => e = .returned (.int .i64 (s.units : Int)) ∧ Below w.heap.size w w' := by
  cases s with
  | cut t =>
    simp only [encStep, PStep.units]
    go_enter Tryd.func47, Tryd.ntmps47
    go_wp2
    go_ret
    exact ⟨rfl, below_alloc _ _⟩
  | add n =>
    simp only [encStep, PStep.units]
    go_enter Tryd.func47, Tryd.ntmps47
    go_wp2
    go_ret
    exact ⟨rfl, below_alloc _ _⟩

theorem unitsOf_take_succ (l : List PStep) (j : Nat) (hj : j < l.length) : unitsOf (l.take (j + 1)) = unitsOf (l.take j) + (l[j]'hj).units := by
  rw [List.take_succ_eq_append_getElem hj, unitsOf_append]
  simp [unitsOf]

theorem encStep_three (s : PStep) : ∃ x0 x1 x2, encStep s = [x0, x1, x2] ∧ x0.oneCell' = true ∧ x1.oneCell' = true ∧ x2.oneCell' = true := by
  cases s with
  | cut t => exact ⟨_, _, _, rfl, rfl, rfl, rfl⟩
  | add n => exact ⟨_, _, _, rfl, rfl, rfl, rfl⟩

theorem units_le_take (l : List PStep) (j : Nat) : unitsOf (l.take j) ≤ unitsOf l := by
  have := unitsOf_append (l.take j) (l.drop j)
  rw [List.take_append_drop] at this
  omega

set_option maxHeartbeats 1000000 in
theorem units_any (p : PF) (fb : Nat) (bv sv : Value) (w : World) (h : FileAt w fb bv sv p) (hb : unitsOf p.steps < 4611686018427387904) (hl : p.steps.length < 4611686018427387904) : Calls Tryd.prog 28 #[.pointer (some ⟨fb, 0, none⟩)] w fun e w' =>
    e = .returned (.int .i64 (unitsOf p.steps : Int)) ∧ Below w.heap.size w w' := by
  obtain ⟨bs, l⟩ := p
  simp only at hb hl
  have c1 := h.cell1
  have hrow := h.steps
  simp only at hrow
  by_cases hne : l = []
  · subst hne
    have hsv : ∃ ad cap, sv = .slice ad 0 cap := by
      rcases hrow.2 with ⟨h1, _⟩ | ⟨g, cap, cur, h1, _⟩
      · exact ⟨none, 0, h1⟩
      · exact ⟨_, _, h1⟩
    obtain ⟨ad, cap, rfl⟩ := hsv
    clear h hrow hb
    go_enter Tryd.func28, Tryd.ntmps28
    go_wp2_with fail
    refine wp_loop_rounds 1 ?_
    rw [rounds_succ]
    go_wp2
    go_ret
    exact ⟨rfl, Below.refl _ _⟩
  · obtain ⟨g, cap, rfl, hg, hcs⟩ := step_at hrow hne
    have HC := Lib.hid hcs
    have HB := Lib.hid hb
    obtain ⟨R, hR⟩ : ∃ R, unitsOf l = R := ⟨_, rfl⟩
    rw [hR]
    have HR := Lib.hid hR
    clear h hrow hcs hb hR
    obtain ⟨N, hN⟩ : ∃ N, l.length = N := ⟨_, rfl⟩
    have HN := Lib.hid hN
    rw [hN] at c1 hl
    clear hN
    go_enter Tryd.func28, Tryd.ntmps28
    go_wp2_with fail
    go_loopg [11, 3] N (fun r i tot wr => ∃ (j T : Nat), Hid (j + r = N) ∧ j ≤ N ∧ i = .int .i64 (j : Int) ∧ tot = .int .i64 (T : Int) ∧ Hid (T = unitsOf (l.take j)) ∧ Below w.heap.size w wr)
    case atStart => exact ⟨0, 0, Nat.zero_add _, Nat.zero_le _, rfl, rfl, rfl, Below.refl _ _⟩
    case round =>
      obtain ⟨j, T, hE, hj, rfl, rfl, HT, hbw⟩ := hrel
      by_cases hlt : j < N
      · have hjl : j < l.length := by rw [HN.out]; exact hlt
        obtain ⟨s, hs⟩ : ∃ s, l[j]'hjl = s := ⟨_, rfl⟩
        have HTS : Hid (T + s.units = unitsOf (l.take (j + 1))) := by
          show _ = _
          rw [unitsOf_take_succ l j hjl, hs, HT.out]
        have hT2 : T + s.units < 4611686018427387904 := by have := units_le_take l (j + 1); rw [← HTS.out] at this; have := HB.out; omega
        have d0 := HC.out j hjl 0 (by omega)
        have d1 := HC.out j hjl 1 (by omega)
        have d2 := HC.out j hjl 2 (by omega)
        rw [hs] at d0 d1 d2
        have hu : ∀ W, Calls Tryd.prog 47 #[.agg (encStep s).toArray] W fun e w' => e = .returned (.int .i64 (s.units : Int)) ∧ Below W.heap.size W w' := fun W => stepUnits_any s W
        clear hs hjl
        obtain ⟨u, hsu⟩ : ∃ u, s.units = u := ⟨_, rfl⟩
        rw [hsu] at HTS hT2 hu
        clear hsu
        cases s
        all_goals
          simp only [encStep, Nat.add_zero, List.getElem?_cons_zero, List.getElem?_cons_succ] at d0 d1 d2 hu
          rw [← hbw.cell (p := ⟨g, j * 3, none⟩) hg] at d0
          rw [← hbw.cell (p := ⟨g, j * 3 + 1, none⟩) hg] at d1
          rw [← hbw.cell (p := ⟨g, j * 3 + 2, none⟩) hg] at d2
          have HU := Lib.hid hu
          clear hu
          have HW := Lib.hid hbw
          clear hbw
          go_wp2_with (go_at_call 47; refine (HU.out _).mono ?_; rintro e w2 ⟨rfl, hb2⟩)
          go_roundg (N - (j + 1))
          case measure => have := hE.out; omega
          case rel =>
            refine ⟨j + 1, T + u, by show _ = _; omega, by omega, by go_num, by go_num, HTS.out, ?_⟩
            exact HW.out.trans ((below_then (below_alloc _ _) hb2).mono HW.out.size)
      · obtain rfl : j = N := by omega
        have hTR : T = R := by rw [HT.out, ← HR.out, ← HN.out, List.take_length]
        subst hTR
        clear hE hlt
        go_wp2
        go_ret
        exact ⟨rfl, hbw⟩

end Go.Proofs.YtanbmlikfhcpoaaDoor.Disk
