/-
  The texts DEnts, joined. Own text.
-/
import Derived.Test.YtmmlefbokplnnaaGreatDoorJ10
import Derived.Test.YtmmlefbokplnnaaGreatDoorJ05
import Derived.Test.YtmmlefbokplnnaaGreatDoorJ07
import Derived.Shelf.SlSortCmp.NoneTotal
import Derived.Ground.SlsfProg
set_option linter.unusedVariables false
set_option linter.unusedSimpArgs false
namespace Go.Proofs
open Go.Shelf
def Tryz.sortE_ren : Go.Shelf.Ren := ⟨fun | 6 => 87 | 15 => 110 | 14 => 112 | 28 => 123 | 29 => 124 | 20 => 126 | 21 => 127 | 22 => 128 | 23 => 129 | 24 => 130 | 25 => 131 | 26 => 132 | 27 => 133 | 46 => 140 | 47 => 135 | 48 => 136 | 49 => 141 | 50 => 142 | 57 => 148 | n => n, fun | 22 => 46 | 24 => 52 | 25 => 139 | 3 => 3 | 39 => 149 | 0 => 0 | 53 => 162 | 55 => 164 | 4 => 4 | 46 => 155 | 45 => 154 | 50 => 159 | 5 => 5 | 9 => 9 | 66 => 170 | 70 => 174 | 76 => 178 | 77 => 117 | n => n, fun | n => n⟩
theorem Tryz.sortE : Go.Proofs.SlLaysF0.n6 Tryz.prog Tryz.sortE_ren := {
  mixed := by kernel_rfl
  f6 := ⟨Tryz.f87.name, by decide, Tryz.func87.trans (congrArg some (by kernel_rfl))⟩
  f14 := ⟨Tryz.f112.name, by decide, Tryz.func112.trans (congrArg some (by kernel_rfl))⟩
  f15 := Tryz.func110.trans (congrArg some (by kernel_rfl))
  f20 := ⟨Tryz.f126.name, by decide, Tryz.func126.trans (congrArg some (by kernel_rfl))⟩
  f21 := ⟨Tryz.f127.name, by decide, Tryz.func127.trans (congrArg some (by kernel_rfl))⟩
  f22 := ⟨Tryz.f128.name, by decide, Tryz.func128.trans (congrArg some (by kernel_rfl))⟩
  f23 := ⟨Tryz.f129.name, by decide, Tryz.func129.trans (congrArg some (by kernel_rfl))⟩
  f24 := ⟨Tryz.f130.name, by decide, Tryz.func130.trans (congrArg some (by kernel_rfl))⟩
  f25 := ⟨Tryz.f131.name, by decide, Tryz.func131.trans (congrArg some (by kernel_rfl))⟩
  f26 := ⟨Tryz.f132.name, by decide, Tryz.func132.trans (congrArg some (by kernel_rfl))⟩
  f27 := ⟨Tryz.f133.name, by decide, Tryz.func133.trans (congrArg some (by kernel_rfl))⟩
  f28 := Tryz.func123.trans (congrArg some (by kernel_rfl))
  f29 := Tryz.func124.trans (congrArg some (by kernel_rfl))
  f46 := ⟨Tryz.f140.name, by decide, Tryz.func140.trans (congrArg some (by kernel_rfl))⟩
  f47 := Tryz.func135.trans (congrArg some (by kernel_rfl))
  f48 := Tryz.func136.trans (congrArg some (by kernel_rfl))
  f49 := ⟨Tryz.f141.name, by decide, Tryz.func141.trans (congrArg some (by kernel_rfl))⟩
  f50 := ⟨Tryz.f142.name, by decide, Tryz.func142.trans (congrArg some (by kernel_rfl))⟩
  f57 := ⟨Tryz.f148.name, by decide, Tryz.func148.trans (congrArg some (by kernel_rfl))⟩
  t0 := Tryz.underlying0
  a0 := Tryz.isAgg0
  z0 := Tryz.sizeOf0
  v0 := Tryz.zeroValue0
  t3 := Tryz.underlying3
  a3 := Tryz.isAgg3
  z3 := Tryz.sizeOf3
  v3 := Tryz.zeroValue3
  t4 := Tryz.underlying4
  a4 := Tryz.isAgg4
  z4 := Tryz.sizeOf4
  v4 := Tryz.zeroValue4
  t5 := Tryz.underlying5
  a5 := Tryz.isAgg5
  z5 := Tryz.sizeOf5
  v5 := Tryz.zeroValue5
  t9 := Tryz.underlying9
  a9 := Tryz.isAgg9
  z9 := Tryz.sizeOf9
  v9 := Tryz.zeroValue9
  t22 := Tryz.underlying46
  a22 := Tryz.isAgg46
  z22 := Tryz.sizeOf46
  v22 := Tryz.zeroValue46
  t25 := Tryz.underlying139
  a25 := Tryz.isAgg139
  z25 := Tryz.sizeOf139
  v25 := Tryz.zeroValue139
  t39 := Tryz.underlying149
  a39 := Tryz.isAgg149
  z39 := Tryz.sizeOf149
  v39 := Tryz.zeroValue149
  t45 := Tryz.underlying154
  a45 := Tryz.isAgg154
  z45 := Tryz.sizeOf154
  v45 := Tryz.zeroValue154
  t46 := Tryz.underlying155
  a46 := Tryz.isAgg155
  z46 := Tryz.sizeOf155
  v46 := Tryz.zeroValue155
  t50 := Tryz.underlying159
  a50 := Tryz.isAgg159
  z50 := Tryz.sizeOf159
  v50 := Tryz.zeroValue159
  t53 := Tryz.underlying162
  a53 := Tryz.isAgg162
  z53 := Tryz.sizeOf162
  v53 := Tryz.zeroValue162
  t55 := Tryz.underlying164
  a55 := Tryz.isAgg164
  z55 := Tryz.sizeOf164
  v55 := Tryz.zeroValue164
  t66 := Tryz.underlying170
  a66 := Tryz.isAgg170
  z66 := Tryz.sizeOf170
  v66 := Tryz.zeroValue170
  t70 := Tryz.underlying174
  a70 := Tryz.isAgg174
  z70 := Tryz.sizeOf174
  v70 := Tryz.zeroValue174
  t76 := Tryz.underlying178
  a76 := Tryz.isAgg178
  z76 := Tryz.sizeOf178
  v76 := Tryz.zeroValue178
  t77 := Tryz.underlying117
  a77 := Tryz.isAgg117
  z77 := Tryz.sizeOf117
  v77 := Tryz.zeroValue117 }
end Go.Proofs
namespace Go.Proofs.YtmmlefbokplnnaaGreatDoor.Disk
open Go.RowKit Go Go.Proofs.YtmmlefbokplnnaaGreatDoor.Base Go.Proofs.YtmmlefbokplnnaaGreatDoor.Map Go.Shelf Go.Sort
open Go.Proofs.YtmmlefbokplnnaaGreatDoor.Lab (cmpS cmpS_ord cmp3 Cmp3 less_cmp str_eq str_ne)

/-- an entry: its name, whether it is a directory, its size -/
structure EntG where
  n : ByteArray
  d : Bool
  s : Int
instance : Inhabited EntG := ⟨⟨ByteArray.empty, false, 0⟩⟩
def EntG.cells (x : EntG) : List Value := [.string x.n, .bool x.d, .int .i64 x.s]
def cmpE (x y : EntG) : Int := cmpS x.n y.n
theorem swoE : SWO (ltOf cmpE) where
  irrefl x := by unfold ltOf cmpE; rw [cmpS_ord.refl]; rfl
  trans x y z h1 h2 := by
    unfold ltOf cmpE at *
    simp only [decide_eq_true_eq] at *
    exact cmpS_ord.lt_le h1 (by omega)
  ntrans x y z h1 h2 := by
    unfold ltOf cmpE at *
    simp only [decide_eq_false_iff_not] at *
    have a := cmpS_ord.swap x.n y.n
    have b := cmpS_ord.swap y.n z.n
    have c := cmpS_ord.swap x.n z.n
    have := cmpS_ord.trans z.n y.n x.n (by omega) (by omega)
    omega

set_option maxRecDepth 100000 in
theorem compare_any (a b : ByteArray) (w : World) : Calls Tryz.prog 89 #[.string a, .string b] w fun e w' => e = .returned (.int .i64 (cmpS a b)) ∧ w = w' := by
  rcases cmp3 a b with ⟨c1, c2, c3, c4, c5⟩ | ⟨c1, c2, c3, c4, c5⟩ | ⟨c1, c2, c3, c4, c5⟩
  all_goals
    rw [c1]
    clear c1 c5
    go_enter Tryz.func89, Tryz.ntmps89
    go_wp2
    go_ret
    exact ⟨rfl, rfl⟩

set_option maxRecDepth 100000 in
set_option maxHeartbeats 1000000 in
theorem entries_cmp (x y : EntG) (w : World) :
    Calls Tryz.prog 88 #[.agg x.cells.toArray, .agg y.cells.toArray] w fun e w' => e = .returned (.int .i64 (cmpE x y)) ∧ ∃ q os, w' = grow (w.drewN q) os := by
  obtain ⟨n, d, s⟩ := x
  obtain ⟨n', d', s'⟩ := y
  show Calls Tryz.prog 88 #[.agg #[.string n, .bool d, .int .i64 s], .agg #[.string n', .bool d', .int .i64 s']] w _
  unfold cmpE
  simp only
  have H := Lib.hid fun W => compare_any n n' W
  generalize cmpS n n' = a at *
  go_enter Tryz.func88, Tryz.ntmps88
  go_wp2_with (go_at_call 89; ((with_reducible refine (H.out _).mono ?_); rintro e w1 ⟨rfl, rfl⟩))
  go_ret
  refine ⟨rfl, 0, #[.cells #[.string n, .bool d, .int .i64 s] 52, .cells #[.string n', .bool d', .int .i64 s'] 52], ?_⟩
  rw [alloc_eq_grow, alloc_eq_grow, grow_grow]
  rfl

theorem entries_lays (blk off size : Nat) (w : World) : CmpLays Tryz.prog 88 #[] EntG.cells 3 cmpE blk off size w :=
  fun _ _ _ _ x y => entries_cmp x y _

def cellsE (l : List EntG) : List Value := l.flatMap EntG.cells
theorem cellsE_cons (x : EntG) (l : List EntG) : cellsE (x :: l) = .string x.n :: .bool x.d :: .int .i64 x.s :: cellsE l := rfl
theorem cellsE_length (l : List EntG) : (cellsE l).length = l.length * 3 := by
  induction l with
  | nil => rfl
  | cons x l ih => rw [cellsE_cons, List.length_cons, List.length_cons, List.length_cons, List.length_cons, ih]; omega
theorem cellsE_append (l m : List EntG) : cellsE (l ++ m) = cellsE l ++ cellsE m := by unfold cellsE; rw [List.flatMap_append]
theorem cellsE_one (l : List EntG) : ∀ u ∈ cellsE l, u.oneCell' = true := by
  intro u hu
  unfold cellsE at hu
  obtain ⟨x, _, hx⟩ := List.mem_flatMap.1 hu
  unfold EntG.cells at hx
  simp at hx
  rcases hx with rfl | rfl | rfl <;> rfl
theorem cellsE_at (l : List EntG) : ∀ j, j < l.length → ∀ r, r < 3 → (cellsE l)[j * 3 + r]? = l[j]!.cells[r]? := by
  induction l with
  | nil => intro j hj; cases hj
  | cons x l ih =>
    intro j hj r hr
    rw [cellsE_cons]
    cases j with
    | zero =>
      match r, hr with
      | 0, _ => rfl
      | 1, _ => rfl
      | 2, _ => rfl
    | succ j =>
      have h := ih j (by simpa using hj) r hr
      rw [show (j + 1) * 3 + r = j * 3 + r + 3 by omega]
      have e : (x :: l)[j + 1]! = l[j]! := by simp
      rw [e]
      simpa using h
theorem flatE (l : List EntG) : flatK EntG.cells 3 l.toArray = (cellsE l).toArray := by
  apply Array.ext'
  apply List.ext_getElem?
  intro t
  unfold flatK
  simp only [Array.toList_map, Array.toList_range, List.size_toArray, List.getElem?_map]
  by_cases ht : t < l.length * 3
  · rw [List.getElem?_range ht, Option.map_some]
    have h := cellsE_at l (t / 3) (by omega) (t % 3) (Nat.mod_lt _ (by decide))
    have he : (l.toArray)[t / 3]! = l[t / 3]! := by simp
    rw [he]
    rw [show t / 3 * 3 + t % 3 = t by omega] at h
    have hl : t % 3 < (l[t / 3]!).cells.length := Nat.mod_lt _ (by show 0 < 3; decide)
    rw [h, List.getElem?_eq_getElem hl]
    congr 1
    exact getElem!_pos (l[t / 3]!).cells (t % 3) hl
  · rw [List.getElem?_eq_none (by simp; omega), List.getElem?_eq_none (by rw [cellsE_length]; omega)]
    rfl

theorem holdsE {w : World} {g : Nat} {cur F : Array Value} {e : TypeId} (hb : w.heap[g]? = some (.cells cur e (0, 0))) (ht : cur.toList.take F.size = F.toList) : Sort.Holds id w g 0 F := by
  intro j hj
  refine ⟨?_, by simp [World.frozen?, hb]⟩
  have h1 : (cur.toList.take F.size)[j]? = F.toList[j]? := by rw [ht]
  rw [List.getElem?_take_of_lt hj] at h1
  simp only [World.cell?, hb, Nat.zero_add]
  simp only [Option.isSome_none, Bool.false_eq_true, if_false]
  rw [← Array.getElem?_toList, h1, Array.getElem?_toList, Array.getElem?_eq_getElem hj, getElem!_pos F j hj]
  rfl
theorem grown_put {w : World} {g n : Nat} {os : Array Obj} (d : Array Value) : w.grownBy (grow (putRow id (Sort.ahead w n) g 0 d) os) (some g) := by
  refine ⟨rfl, rfl, rfl, by simp, fun k hk hne => ?_⟩
  rw [heap_grow_old _ _ (by simpa using hk)]
  have : g ≠ k := fun e => hne (by rw [e])
  simp [putRow, mapBlock, Sort.ahead, Array.getElem?_modify, this]

/-- entries are sorted: only their row turns -/
theorem sortE_any (w : World) (v : Value) (l : List EntG) (h : w.ownsRow 0 52 3 v l.length (cellsE l)) (hn : l.length < 4611686018427387904) :
    Calls Tryz.prog 87 #[v, .func (.func 88) #[] #[]] w fun e w' => e = .returned (.tuple #[]) ∧ w.grownBy w' v.ownBlock := by
  rcases h.2 with ⟨rfl, h0⟩ | ⟨g, cap, cur, rfl, hb0, h2, h3, h4, h5, h6⟩
  · have hc := AnyF.slices_SortFunc_none Tryz.sortE none 0 (.func (.func 88) #[] #[]) w
    change Calls Tryz.prog 87 _ _ _ at hc
    refine hc.mono fun e w' ⟨e1, e2⟩ => ?_
    subst e2
    exact ⟨e1, ⟨rfl, rfl, rfl, Nat.le_refl _, fun _ _ _ => rfl⟩⟩
  · have eg : ∀ args w, (callFunc 88 args).run Tryz.prog w = .ok (.enter 88 args) w := enters_of Tryz.func88 (by kernel_rfl) rfl
    have hH : HoldsK EntG.cells 3 w g 0 l.toArray := by
      unfold HoldsK
      rw [flatE]
      exact holdsE h2 (by simp only [List.size_toArray, cellsE_length]; exact h6)
    have hc := AnyQ.slices_SortFunc Tryz.sortE 3 Tryz.isAgg52 Tryz.sizeOf52 EntG.cells (fun _ => rfl) (fun x u hu => by unfold EntG.cells at hu; simp at hu; rcases hu with rfl | rfl | rfl <;> rfl) cmpE swoE 88 #[] g 0 cap l.toArray w eg (entries_lays _ _ _ _) hH (Array.getElem?_eq_some_iff.1 h2).1 (by simpa using hn)
    change Calls Tryz.prog 87 _ _ _ at hc
    simp only [List.size_toArray] at hc
    refine hc.mono fun e w' ⟨e1, d', n, os, _, _, e2⟩ => ?_
    subst e2
    refine ⟨e1, ?_⟩
    unfold sortWorldK putRowK
    exact grown_put _

end Go.Proofs.YtmmlefbokplnnaaGreatDoor.Disk
