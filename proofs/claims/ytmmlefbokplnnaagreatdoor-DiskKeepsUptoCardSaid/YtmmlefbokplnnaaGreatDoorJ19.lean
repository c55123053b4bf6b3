/-
  The texts DEnts, joined. Own text.
-/
import Derived.Test.YtmmlefbokplnnaaGreatDoorJ10
import Derived.Test.YtmmlefbokplnnaaGreatDoorJ05
import Derived.Test.YtmmlefbokplnnaaGreatDoorJ07
import Derived.Shelf.SlSortCmp.NoneTotal
import Derived.Ground.SlsfProg
set_option linter.unusedVariables false
set_option linter.unusedSimpArgs false
namespace Go.Proofs
open Go.Shelf
shelf_lay_g SlLaysF0.n6 Slsf 6 at Tryz 87 as Tryz.sortE
end Go.Proofs
namespace Go.Proofs.YtmmlefbokplnnaaGreatDoor.Disk
open Go.RowKit Go Go.Proofs.YtmmlefbokplnnaaGreatDoor.Base Go.Proofs.YtmmlefbokplnnaaGreatDoor.Map Go.Shelf Go.Sort
open Go.Proofs.YtmmlefbokplnnaaGreatDoor.Lab (cmpS cmpS_ord cmp3 Cmp3 less_cmp str_eq str_ne)

/-- an entry: its name, whether it is a directory, its size -/
structure EntG where
  n : ByteArray
  d : Bool
  s : Int
instance : Inhabited EntG := ⟨⟨ByteArray.empty, false, 0⟩⟩
def EntG.cells (x : EntG) : List Value := [.string x.n, .bool x.d, .int .i64 x.s]
def cmpE (x y : EntG) : Int := cmpS x.n y.n
theorem swoE : SWO (ltOf cmpE) where
  irrefl x := by unfold ltOf cmpE; rw [cmpS_ord.refl]; rfl
  trans x y z h1 h2 := by
    unfold ltOf cmpE at *
    simp only [decide_eq_true_eq] at *
    exact cmpS_ord.lt_le h1 (by omega)
  ntrans x y z h1 h2 := by
    unfold ltOf cmpE at *
    simp only [decide_eq_false_iff_not] at *
    have a := cmpS_ord.swap x.n y.n
    have b := cmpS_ord.swap y.n z.n
    have c := cmpS_ord.swap x.n z.n
    have := cmpS_ord.trans z.n y.n x.n (by omega) (by omega)
    omega

set_option maxRecDepth 100000 in
theorem compare_any (a b : ByteArray) (w : World) : Calls Tryz.prog 89 #[.string a, .string b] w fun e w' => e = .returned (.int .i64 (cmpS a b)) ∧ w = w' := by
  rcases cmp3 a b with ⟨c1, c2, c3, c4, c5⟩ | ⟨c1, c2, c3, c4, c5⟩ | ⟨c1, c2, c3, c4, c5⟩
  all_goals
    rw [c1]
    clear c1 c5
    go_enter Tryz.func89, Tryz.ntmps89
    go_wp2
    go_ret
    exact ⟨rfl, rfl⟩

set_option maxRecDepth 100000 in
set_option maxHeartbeats 1000000 in
theorem entries_cmp (x y : EntG) (w : World) :
    Calls Tryz.prog 88 #[.agg x.cells.toArray, .agg y.cells.toArray] w fun e w' => e = .returned (.int .i64 (cmpE x y)) ∧ ∃ q os, w' = grow (w.drewN q) os := by
  obtain ⟨n, d, s⟩ := x
  obtain ⟨n', d', s'⟩ := y
  show Calls Tryz.prog 88 #[.agg #[.string n, .bool d, .int .i64 s], .agg #[.string n', .bool d', .int .i64 s']] w _
  unfold cmpE
  simp only
  have H := Lib.hid fun W => compare_any n n' W
  generalize cmpS n n' = a at *
  go_enter Tryz.func88, Tryz.ntmps88
  go_wp2_with (go_at_call 89; ((with_reducible refine (H.out _).mono ?_); rintro e w1 ⟨rfl, rfl⟩))
  go_ret
  refine ⟨rfl, 0, #[.cells #[.string n, .bool d, .int .i64 s] 52, .cells #[.string n', .bool d', .int .i64 s'] 52], ?_⟩
  rw [alloc_eq_grow, alloc_eq_grow, grow_grow]
  rfl

theorem entries_lays (blk off size : Nat) (w : World) : CmpLays Tryz.prog 88 #[] EntG.cells 3 cmpE blk off size w :=
  fun _ _ _ _ x y => entries_cmp x y _

def cellsE (l : List EntG) : List Value := l.flatMap EntG.cells
theorem cellsE_cons (x : EntG) (l : List EntG) : cellsE (x :: l) = .string x.n :: .bool x.d :: .int .i64 x.s :: cellsE l := rfl
theorem cellsE_length (l : List EntG) : (cellsE l).length = l.length * 3 := by
  induction l with
  | nil => rfl
  | cons x l ih => rw [cellsE_cons, List.length_cons, List.length_cons, List.length_cons, List.length_cons, ih]; omega
theorem cellsE_append (l m : List EntG) : cellsE (l ++ m) = cellsE l ++ cellsE m := by unfold cellsE; rw [List.flatMap_append]
theorem cellsE_one (l : List EntG) : ∀ u ∈ cellsE l, u.oneCell' = true := by
  intro u hu
  unfold cellsE at hu
  obtain ⟨x, _, hx⟩ := List.mem_flatMap.1 hu
  unfold EntG.cells at hx
  simp at hx
  rcases hx with rfl | rfl | rfl <;> rfl
theorem cellsE_at (l : List EntG) : ∀ j, j < l.length → ∀ r, r < 3 → (cellsE l)[j * 3 + r]? = l[j]!.cells[r]? := by
  induction l with
  | nil => intro j hj; cases hj
  | cons x l ih =>
    intro j hj r hr
    rw [cellsE_cons]
    cases j with
    | zero =>
      match r, hr with
      | 0, _ => rfl
      | 1, _ => rfl
      | 2, _ => rfl
    | succ j =>
      have h := ih j (by simpa using hj) r hr
      rw [show (j + 1) * 3 + r = j * 3 + r + 3 by omega]
      have e : (x :: l)[j + 1]! = l[j]! := by simp
      rw [e]
      simpa using h
theorem flatE (l : List EntG) : flatK EntG.cells 3 l.toArray = (cellsE l).toArray := by
  apply Array.ext'
  apply List.ext_getElem?
  intro t
  unfold flatK
  simp only [Array.toList_map, Array.toList_range, List.size_toArray, List.getElem?_map]
  by_cases ht : t < l.length * 3
  · rw [List.getElem?_range ht, Option.map_some]
    have h := cellsE_at l (t / 3) (by omega) (t % 3) (Nat.mod_lt _ (by decide))
    have he : (l.toArray)[t / 3]! = l[t / 3]! := by simp
    rw [he]
    rw [show t / 3 * 3 + t % 3 = t by omega] at h
    have hl : t % 3 < (l[t / 3]!).cells.length := Nat.mod_lt _ (by show 0 < 3; decide)
    rw [h, List.getElem?_eq_getElem hl]
    congr 1
    exact getElem!_pos (l[t / 3]!).cells (t % 3) hl
  · rw [List.getElem?_eq_none (by simp; omega), List.getElem?_eq_none (by rw [cellsE_length]; omega)]
    rfl

theorem holdsE {w : World} {g : Nat} {cur F : Array Value} {e : TypeId} (hb : w.heap[g]? = some (.cells cur e (0, 0))) (ht : cur.toList.take F.size = F.toList) : Sort.Holds id w g 0 F := by
  intro j hj
  refine ⟨?_, by simp [World.frozen?, hb]⟩
  have h1 : (cur.toList.take F.size)[j]? = F.toList[j]? := by rw [ht]
  rw [List.getElem?_take_of_lt hj] at h1
  simp only [World.cell?, hb, Nat.zero_add]
  simp only [Option.isSome_none, Bool.false_eq_true, if_false]
  rw [← Array.getElem?_toList, h1, Array.getElem?_toList, Array.getElem?_eq_getElem hj, getElem!_pos F j hj]
  rfl
theorem grown_put {w : World} {g n : Nat} {os : Array Obj} (d : Array Value) : w.grownBy (grow (putRow id (Sort.ahead w n) g 0 d) os) (some g) := by
  refine ⟨rfl, rfl, rfl, by simp, fun k hk hne => ?_⟩
  rw [heap_grow_old _ _ (by simpa using hk)]
  have : g ≠ k := fun e => hne (by rw [e])
  simp [putRow, mapBlock, Sort.ahead, Array.getElem?_modify, this]

/-- entries are sorted: only their row turns -/
theorem sortE_any (w : World) (v : Value) (l : List EntG) (h : w.ownsRow 0 52 3 v l.length (cellsE l)) (hn : l.length < 4611686018427387904) :
    Calls Tryz.prog 87 #[v, .func (.func 88) #[] #[]] w fun e w' => e = .returned (.tuple #[]) ∧ w.grownBy w' v.ownBlock := by
  rcases h.2 with ⟨rfl, h0⟩ | ⟨g, cap, cur, rfl, hb0, h2, h3, h4, h5, h6⟩
  · have hc := AnyF.slices_SortFunc_none Tryz.sortE none 0 (.func (.func 88) #[] #[]) w
    change Calls Tryz.prog 87 _ _ _ at hc
    refine hc.mono fun e w' ⟨e1, e2⟩ => ?_
    subst e2
    exact ⟨e1, ⟨rfl, rfl, rfl, Nat.le_refl _, fun _ _ _ => rfl⟩⟩
  · have eg : ∀ args w, (callFunc 88 args).run Tryz.prog w = .ok (.enter 88 args) w := enters_of Tryz.func88 (by kernel_rfl) rfl
    have hH : HoldsK EntG.cells 3 w g 0 l.toArray := by
      unfold HoldsK
      rw [flatE]
      exact holdsE h2 (by simp only [List.size_toArray, cellsE_length]; exact h6)
    have hc := AnyQ.slices_SortFunc Tryz.sortE 3 Tryz.isAgg52 Tryz.sizeOf52 EntG.cells (fun _ => rfl) (fun x u hu => by unfold EntG.cells at hu; simp at hu; rcases hu with rfl | rfl | rfl <;> rfl) cmpE swoE 88 #[] g 0 cap l.toArray w eg (entries_lays _ _ _ _) hH (Array.getElem?_eq_some_iff.1 h2).1 (by simpa using hn)
    change Calls Tryz.prog 87 _ _ _ at hc
    simp only [List.size_toArray] at hc
    refine hc.mono fun e w' ⟨e1, d', n, os, _, _, e2⟩ => ?_
    subst e2
    refine ⟨e1, ?_⟩
    unfold sortWorldK putRowK
    exact grown_put _

end Go.Proofs.YtmmlefbokplnnaaGreatDoor.Disk
