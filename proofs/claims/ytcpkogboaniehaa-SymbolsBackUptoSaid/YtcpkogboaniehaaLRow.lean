/-
  Lists of labels in rows of one's own; the sort of such a row. Own text.
-/
import Derived.Test.YtcpkogboaniehaaLSrt
import Derived.Shelf.SlSortCmp.NoneTotal
import Derived.Ground.SlsfProg
import Derived.Shelf.SlicesE.Clone
import Derived.Ground.SlgnProg
import Derived.Laws.OwnMore
namespace Go.Proofs
open Go.Shelf
shelf_lay_g SlLaysF0.n6 Slsf 6 at Try 73 as Try.lSort
shelf_lay_g SlLaysE0.n41 Slgn 41 at Try 72 as Try.lClone
end Go.Proofs
namespace Go.Proofs.Ytcpkogboaniehaa.Lab
open Go.RowKit Go Go.Proofs.Ytcpkogboaniehaa.Base Go.Shelf Go.Sort

/-- the cells of a list, one behind the other -/
def cellsL (l : List Lab) : List Value := l.flatMap Lab.cells
theorem cellsL_cons (x : Lab) (l : List Lab) : cellsL (x :: l) = .string x.n :: .string x.v :: cellsL l := rfl
theorem cellsL_length (l : List Lab) : (cellsL l).length = l.length * 2 := by
  induction l with
  | nil => rfl
  | cons x l ih => rw [cellsL_cons, List.length_cons, List.length_cons, List.length_cons, ih]; omega
theorem cellsL_append (l m : List Lab) : cellsL (l ++ m) = cellsL l ++ cellsL m := by unfold cellsL; rw [List.flatMap_append]
theorem cellsL_at (l : List Lab) : ∀ j, j < l.length → (cellsL l)[j * 2]? = some (.string l[j]!.n) ∧ (cellsL l)[j * 2 + 1]? = some (.string l[j]!.v) := by
  induction l with
  | nil => intro j hj; cases hj
  | cons x l ih =>
    intro j hj
    rw [cellsL_cons]
    cases j with
    | zero => exact ⟨rfl, rfl⟩
    | succ j =>
      have h := ih j (by simpa using hj)
      rw [show (j + 1) * 2 = j * 2 + 2 by omega]
      have e : (x :: l)[j + 1]! = l[j]! := by simp
      rw [e]
      exact ⟨by simpa using h.1, by simpa using h.2⟩
theorem cellsL_one (l : List Lab) : ∀ u ∈ cellsL l, u.oneCell' = true := by
  intro u hu
  unfold cellsL at hu
  obtain ⟨x, _, hx⟩ := List.mem_flatMap.1 hu
  unfold Lab.cells at hx
  simp at hx
  rcases hx with rfl | rfl <;> rfl

theorem flat_eq (l : List Lab) : flatK Lab.cells 2 l.toArray = (cellsL l).toArray := by
  apply Array.ext'
  apply List.ext_getElem?
  intro t
  unfold flatK
  simp only [Array.toList_map, Array.toList_range, List.size_toArray, List.getElem?_map]
  by_cases ht : t < l.length * 2
  · rw [List.getElem?_range ht, Option.map_some]
    have h := cellsL_at l (t / 2) (by omega)
    have he : (l.toArray)[t / 2]! = l[t / 2]! := by simp
    rw [he]
    rcases Nat.mod_two_eq_zero_or_one t with e | e
    · rw [e]
      rw [show t / 2 * 2 = t by omega] at h
      rw [h.1]
      rfl
    · rw [e]
      rw [show t / 2 * 2 + 1 = t by omega] at h
      rw [h.2]
      rfl
  · rw [List.getElem?_eq_none (by simp; omega), List.getElem?_eq_none (by rw [cellsL_length]; omega)]
    rfl

/-- a row of one's own, as a list in memory -/
theorem labs_of_row {w : World} {B : Nat} {t : TypeId} {v : Value} {l : List Lab} (h : w.ownsRow B t 2 v l.length (cellsL l)) :
    ∃ ao cap, v = .slice ao l.length cap ∧ l.length ≤ cap ∧ cap ≤ maxLen ∧ LabsAt w ao l ∧ (∀ k, v.ownBlock = some k → B ≤ k) := by
  rcases h.2 with ⟨rfl, h0⟩ | ⟨g, cap, cur, rfl, hb0, h2, h3, h4, h5, h6⟩
  · rw [h0]
    exact ⟨none, 0, rfl, Nat.le_refl _, Nat.zero_le _, fun j hj => by omega, fun k hk => by cases hk⟩
  · refine ⟨_, cap, rfl, h3, h4, fun j hj => ⟨g, 0, rfl, (Array.getElem?_eq_some_iff.1 h2).1, ?_, ?_⟩, fun k hk => by (simp only [Value.ownBlock, Option.some.injEq] at hk; omega)⟩
    all_goals
      have hc := cellsL_at l j hj
      rw [← h6] at hc
      rw [List.getElem?_take_of_lt (by omega), List.getElem?_take_of_lt (by omega), Array.getElem?_toList, Array.getElem?_toList] at hc
      simp only [World.cell?, h2, Nat.zero_add]
      simp only [Option.isSome_none, Bool.false_eq_true, if_false]
    · exact hc.1
    · exact hc.2

theorem holds_of_cells {w : World} {g : Nat} {cur F : Array Value} {e : TypeId} (hb : w.heap[g]? = some (.cells cur e (0, 0))) (ht : cur.toList.take F.size = F.toList) : Holds id w g 0 F := by
  intro j hj
  refine ⟨?_, by simp [World.frozen?, hb]⟩
  have h1 : (cur.toList.take F.size)[j]? = F.toList[j]? := by rw [ht]
  rw [List.getElem?_take_of_lt hj] at h1
  simp only [World.cell?, hb, Nat.zero_add]
  simp only [Option.isSome_none, Bool.false_eq_true, if_false]
  rw [← Array.getElem?_toList, h1, Array.getElem?_toList, Array.getElem?_eq_getElem hj, getElem!_pos F j hj]
  rfl

theorem heap_put {w : World} {g n : Nat} {os : Array Obj} {cur : Array Value} {e : TypeId} {fr : Nat × Nat} (d : Array Value) (hb : w.heap[g]? = some (.cells cur e fr)) :
    (grow (putRow id (Sort.ahead w n) g 0 d) os).heap[g]? = some (.cells (putCells id 0 d cur) e fr) := by
  have hg : g < w.heap.size := (Array.getElem?_eq_some_iff.1 hb).1
  rw [heap_grow_old _ _ (by simpa using hg)]
  simp [putRow, mapBlock, Sort.ahead, Array.getElem?_modify, hb, onCells]

theorem grownBy_put {w : World} {g n : Nat} {os : Array Obj} (d : Array Value) : w.grownBy (grow (putRow id (Sort.ahead w n) g 0 d) os) (some g) := by
  refine ⟨rfl, rfl, rfl, by simp, fun k hk hne => ?_⟩
  rw [heap_grow_old _ _ (by simpa using hk)]
  have : g ≠ k := fun e => hne (by rw [e])
  simp [putRow, mapBlock, Sort.ahead, Array.getElem?_modify, this]

theorem take_put (cur F : Array Value) (h : F.size ≤ cur.size) : (putCells id 0 F cur).toList.take F.size = F.toList := by
  apply List.ext_getElem?
  intro j
  by_cases hj : j < F.size
  · rw [List.getElem?_take_of_lt hj, Array.getElem?_toList, Array.getElem?_toList]
    simp [putCells, hj, show j < cur.size by omega]
  · rw [List.getElem?_take_eq_none (by omega), List.getElem?_eq_none (by simp; omega)]

/-- the sorted list -/
def sortL (l : List Lab) : List Lab := l.mergeSort fun x y => !(ltOf cmpLab) y x
theorem sortL_length (l : List Lab) : (sortL l).length = l.length := by unfold sortL; simp

theorem swoLab : SWO (ltOf cmpLab) where
  irrefl x := by unfold ltOf; rw [cmpLab_ord.refl]; rfl
  trans x y z h1 h2 := by
    unfold ltOf at *
    simp only [decide_eq_true_eq] at *
    exact cmpLab_ord.lt_le h1 (by omega)
  ntrans x y z h1 h2 := by
    unfold ltOf at *
    simp only [decide_eq_false_iff_not] at *
    have a := cmpLab_ord.swap x y
    have b := cmpLab_ord.swap y z
    have c := cmpLab_ord.swap x z
    have := cmpLab_ord.trans z y x (by omega) (by omega)
    omega
theorem totLab (x y : Lab) (h1 : ltOf cmpLab x y = false) (h2 : ltOf cmpLab y x = false) : x = y := by
  unfold ltOf at *
  simp only [decide_eq_false_iff_not] at *
  have a := cmpLab_ord.swap x y
  exact cmpLab_ord.eq _ _ (by omega)

theorem sort_any (w : World) (B : Nat) (v : Value) (l : List Lab) (h : w.ownsRow B 69 2 v l.length (cellsL l)) (hn : l.length < 4611686018427387904) :
    Calls Try.prog 73 #[v, .func (.func 53) #[] #[]] w fun e w' => e = .returned (.tuple #[]) ∧ w'.ownsRow B 69 2 v l.length (cellsL (sortL l)) ∧ w.grownBy w' v.ownBlock := by
  rcases h.2 with ⟨rfl, h0⟩ | ⟨g, cap, cur, rfl, hb0, h2, h3, h4, h5, h6⟩
  · have hc := AnyF.slices_SortFunc_none Try.lSort none 0 (.func (.func 53) #[] #[]) w
    change Calls Try.prog 73 _ _ _ at hc
    refine hc.mono fun e w' ⟨e1, e2⟩ => ?_
    subst e2
    have hl : l = [] := List.eq_nil_of_length_eq_zero h0
    subst hl
    exact ⟨e1, by simpa [sortL, cellsL] using World.ownsRow_nil w' B 69 2, ⟨rfl, rfl, rfl, Nat.le_refl _, fun _ _ _ => rfl⟩⟩
  · have eg : ∀ args w, (callFunc 53 args).run Try.prog w = .ok (.enter 53 args) w := enters_of Try.func53 (by kernel_rfl) rfl
    have hH : HoldsK Lab.cells 2 w g 0 l.toArray := by
      unfold HoldsK
      rw [flat_eq]
      exact holds_of_cells h2 (by simp only [List.size_toArray, cellsL_length]; exact h6)
    have hc := AnyQ.slices_SortFunc_total Try.lSort 2 Try.isAgg69 Try.sizeOf69 Lab.cells (fun _ => rfl) (fun x u hu => by unfold Lab.cells at hu; simp at hu; rcases hu with rfl | rfl <;> rfl) cmpLab swoLab 53 #[] g 0 cap l.toArray w eg (compareLabels_lays _ _ _ _) hH (Array.getElem?_eq_some_iff.1 h2).1 (by simpa using hn) totLab
    change Calls Try.prog 73 _ _ _ at hc
    simp only [List.size_toArray] at hc
    refine hc.mono fun e w' ⟨e1, n, os, e2⟩ => ?_
    subst e2
    have hs : sortWorldK Lab.cells 2 w g 0 n (sortL l).toArray os = grow (putRow id (Sort.ahead w n) g 0 (cellsL (sortL l)).toArray) os := by
      unfold sortWorldK putRowK
      rw [flat_eq]
    show e = _ ∧ (sortWorldK Lab.cells 2 w g 0 n (sortL l).toArray os).ownsRow _ _ _ _ _ _ ∧ w.grownBy (sortWorldK Lab.cells 2 w g 0 n (sortL l).toArray os) _
    rw [hs]
    have hlen : (cellsL (sortL l)).length = l.length * 2 := by rw [cellsL_length, sortL_length]
    have ht := take_put cur (cellsL (sortL l)).toArray (by simp only [List.size_toArray, hlen]; omega)
    simp only [List.size_toArray, hlen] at ht
    refine ⟨e1, ⟨hlen, .inr ⟨g, cap, _, rfl, hb0, heap_put _ h2, h3, h4, by simp [putCells, h5], ht⟩⟩, grownBy_put _⟩

end Go.Proofs.Ytcpkogboaniehaa.Lab
