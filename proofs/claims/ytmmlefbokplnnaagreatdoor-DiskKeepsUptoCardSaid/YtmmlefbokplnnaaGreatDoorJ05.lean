/-
  The texts DRow, DFMem, joined. Own text.
-/
import Derived.Test.YtmmlefbokplnnaaGreatDoorJ04
import Derived.Deep.AppendSrc
import Derived.OwnWalk
import Derived.BigFrame
import Derived.Test.YtmmlefbokplnnaaGreatDoorJ03
set_option linter.unusedVariables false
set_option linter.unusedSimpArgs false
namespace Go.Proofs.YtmmlefbokplnnaaGreatDoor.Row
open Go.RowKit Go

section
variable {P : Program} (w : World)

theorem append_src (t tx ty e : TypeId) (i : TypeInfo) (z : Value) (size bytes : Nat) (ht : P.underlying t = some (.slice e)) (hi : P.info? e = some i) (hz : i.zero = some z)
    (hsize : i.size = size) (hby : i.bytes = bytes) (hzs : z.cells.size = size) (hsz : 0 < size)
    (v : Value) (n : Nat) (xs : List Value) (hown : w.ownsRow 0 e size v n xs) (x : Value) (m : Nat) (news : List Value) (hs : Src P size tx x m news w)
    (h63 : n + m ≤ maxLen) (hbytes : (n + m) * bytes ≤ 140737488355328) :
    ∃ v' w', (Builtin.append_ #[t, tx] ty #[v, x]).run P w = .ok v' w' ∧ w'.ownsRow 0 e size v' (n + m) (xs ++ news) ∧ w.grownBy w' v.ownBlock ∧ (v'.ownBlock = v.ownBlock ∨ v'.ownBlock = some w.heap.size) := by
  subst hsize
  subst hby
  have hl := hs.newsLen
  have hsmall : n + m ≤ 9223372036854775807 := by simp only [maxLen] at h63; omega
  have hlen : (xs ++ news).length = (n + m) * i.size := by rw [List.length_append, hown.1, hl, Nat.add_mul]
  have grown : ∀ (old : Nat), old < n + m → ∀ (row : Option Nat),
      (w.drew.alloc (.cells ((xs ++ news).toArray ++ Builtin.zeroCells z.cells (grownCap w (n + m) old e - (n + m))) e)).ownsRow 0 e i.size
        (.slice (some ⟨w.heap.size, 0, none⟩) (n + m) (grownCap w (n + m) old e)) (n + m) (xs ++ news) ∧
      w.grownBy (w.drew.alloc (.cells ((xs ++ news).toArray ++ Builtin.zeroCells z.cells (grownCap w (n + m) old e - (n + m))) e)) row := by
    intro old ho row
    have hge := grownCap_ge w (n + m) old e
    have hcm : grownCap w (n + m) old e ≤ maxLen := grownCap_le_maxLen w (n + m) old e h63
    refine ⟨⟨hlen, .inr ⟨w.heap.size, _, _, rfl, Nat.zero_le _, heap_alloc_new w.drew _, hge, hcm, ?_, ?_⟩⟩, ⟨rfl, rfl, rfl, by simp, fun k hk _ => heap_alloc_old w.drew _ hk⟩⟩
    · simp only [Array.size_append, List.size_toArray, size_zeroCells, hzs]
      rw [hlen, ← Nat.add_mul]
      congr 1
      omega
    · simp only [Array.toList_append]
      rw [← hlen]
      exact List.take_left
  rcases hown.2 with ⟨rfl, rfl⟩ | ⟨g, cap, cur, rfl, hbg, hg, hnc, hcm, hcs, htake⟩
  · have hx : xs = [] := List.eq_nil_of_length_eq_zero (by simpa using hown.1)
    subst hx
    by_cases hm : m = 0
    · subst hm
      have hn : news = [] := List.eq_nil_of_length_eq_zero (by simpa using hl)
      subst hn
      refine ⟨.slice none 0 0, w, ?_, World.ownsRow_nil w 0 e i.size, ⟨rfl, rfl, rfl, Nat.le_refl _, fun _ _ _ => rfl⟩, Or.inl rfl⟩
      rcases hs.kind with ⟨e', hk⟩ | hk <;> simp [Builtin.append_, run_underlying ht, run_underlying hk, sizeOf, typeInfo, hi, hs.len, hs.cells]
    · have hr := run_append_grow_src (P := P) w t tx ty e i z ht hi hz none 0 0 [] (by simp [run_firstCells_none]) x m news hs (by omega) (by omega) (growslice_fits (by omega) hbytes)
      have hgr := grown 0 (by omega) (Value.ownBlock (.slice none 0 0))
      exact ⟨_, _, hr, hgr.1, hgr.2, Or.inr rfl⟩
  · by_cases hroom : n + m ≤ cap
    · have hfit : n * i.size + news.length ≤ cur.size := by rw [hl, hcs, ← Nat.add_mul]; exact Nat.mul_le_mul_right _ hroom
      have hst := run_storeCells_at P g (n * i.size) e news 0 cur w hg (by simpa using hfit) hs.one
      simp only [Nat.add_zero] at hst
      have hr : (Builtin.append_ #[t, tx] ty #[.slice (some ⟨g, 0, none⟩) n cap, x]).run P w = .ok (.slice (some ⟨g, 0, none⟩) (n + m) cap) (w.setRow g (cur.toList.take (n * i.size) ++ news ++ cur.toList.drop (n * i.size + news.length)).toArray) := by
        rcases hs.kind with ⟨e', hk⟩ | hk <;> simp [Builtin.append_, run_underlying ht, run_underlying hk, sizeOf, typeInfo, hi, hs.len, hroom, hs.cells, Addr.add_lit, hst]
      refine ⟨_, _, hr, ⟨hlen, .inr ⟨g, cap, _, rfl, hbg, setRow_heap w g cur _ e _ hg, hroom, hcm, ?_, ?_⟩⟩, ⟨rfl, rfl, rfl, by simp, fun k _ hk => setRow_other w g k _ (fun e => hk (by simp [Value.ownBlock, e]))⟩, Or.inl rfl⟩
      · simp only [List.size_toArray, List.length_append, List.length_take, List.length_drop, Array.length_toList]
        omega
      · rw [htake, ← hlen]
        exact List.take_left
    · have holds : ∀ j u, xs[j]? = some u → w.drew.cell? ((⟨g, 0, none⟩ : Addr).add j) = some u := hown.cells (g := g) rfl
      have hr := run_append_grow_src (P := P) w t tx ty e i z ht hi hz (some ⟨g, 0, none⟩) n cap xs (run_firstCells_some w.drew i.size n _ n cap xs hown.1 holds) x m news hs (by omega) (by omega) (growslice_fits (by omega) hbytes)
      have hgr := grown cap (by omega) (Value.ownBlock (.slice (some ⟨g, 0, none⟩) n cap))
      exact ⟨_, _, hr, hgr.1, hgr.2, Or.inr rfl⟩

end

/-- an append, by what it comes to -/
theorem append_by {P : Program} {ops : Array Oper} {rest : List Oper} {o : Oper} {a : Act} {Q : Exit → Act → World → Prop} {w w' : World} {v' : Value} (hw : Region.wanted o (yielded ops a.tmps) = true) (s x : Operand) (ts : Array TypeId)
    (ho : o.op = .call { callee := .builtin .append, args := #[s, x], argTypes := ts }) (u v : Value) (hs : a.eval s = u) (hx : a.eval x = v)
    (hrun : (Builtin.append_ ts o.type #[u, v]).run P w = .ok v' w') (h : wpList P ops Q rest (a.put o.dst v') w') : wpList P ops Q (o :: rest) a w := by
  refine BigFrame.wpList_want hw fun K hK => ?_
  unfold Oper.wp execOp
  simp only [ho, resolve, invoke, builtin, Sem.run_bind, Sem.run_pure, Result.andThen_ok, List.map_toArray, List.map_cons, List.map_nil, hs, hx, hrun]
  exact hK _ _ h

/-- an append as one step of a region that draws, by what it comes to -/
theorem step_by {P : Program} {ops : Array Oper} {o : Oper} {a : Act} {w w' : World} {K : Act → World → Prop} {Q : Exit → Act → World → Prop} {E : Prop} {r : Value}
    (hg : o.guard = none) (s x : Operand) (ts : Array TypeId) (hop : o.op = Op.call { callee := Callee.builtin Builtin.append, args := #[s, x], argTypes := ts }) (u v : Value) (hs : a.eval s = u) (hx : a.eval x = v)
    (hrun : (Builtin.append_ ts o.type #[u, v]).run P w = .ok r w') (hK : K (a.put o.dst r) w') : if Region.wanted o (yielded ops a.tmps) = true then Oper.wp P o a w K Q else E := by
  have hw : Region.wanted o (yielded ops a.tmps) = true := by simp [Region.wanted, hg]
  rw [if_pos hw]
  unfold Oper.wp
  simp [execOp, hop, resolve, invoke, builtin, hs, hx, hrun, Result.andThen]
  exact hK

theorem byteCells_eq (s : ByteArray) : byteCells s = Base.u8s (Base.nums s) := by
  unfold byteCells Base.u8s Base.nums
  rw [List.map_map]
  rfl

/-- a text's bytes, behind bytes -/
theorem append_text (w : World) (ty : TypeId) (v : Value) (l : List Nat) (n : Nat) (hn : n = l.length) (hown : w.ownsRow 0 5 1 v n (Base.u8s l)) (s : ByteArray) (hl : l.length + s.size ≤ 140737488355328) :
    ∃ v' w', (Builtin.append_ #[91, 9] ty #[v, .string s]).run Tryz.prog w = .ok v' w' ∧ w'.ownsRow 0 5 1 v' (n + s.size) (Base.u8s (l ++ Base.nums s)) ∧ w.grownBy w' v.ownBlock ∧ (v'.ownBlock = v.ownBlock ∨ v'.ownBlock = some w.heap.size) := by
  obtain ⟨i0, hi, hz0, hz1, hz2⟩ := info_parts Base.info8
  obtain ⟨v', w', h1, h2, h3, h4⟩ := append_src (P := Tryz.prog) w 91 9 ty 5 i0 (.int .u8 0) 1 1 Tryz.underlying91 hi hz0 hz1 hz2 rfl (by decide) v n _ hown (.string s) s.size (byteCells s) (Src.ofString w Tryz.underlying9 s) (by unfold maxLen; omega) (by omega)
  rw [byteCells_eq, ← Base.u8s_append] at h2
  exact ⟨v', w', h1, h2, h3, h4⟩

theorem zeros_one (v : Value) (n : Nat) : Builtin.zeroCells #[v] n = (List.replicate n v).toArray := by
  unfold Builtin.zeroCells
  apply Array.ext'
  simp only [List.size_toArray, List.length_cons, List.length_nil, Nat.mul_one, Array.toList_map, Array.toList_range, Nat.zero_add]
  apply List.ext_getElem?
  intro j
  by_cases hj : j < n
  · simp [hj, Nat.mod_one]
  · simp [hj]

/-- zero bytes, behind bytes -/
theorem append_zeros (w : World) (ty : TypeId) (v : Value) (l : List Nat) (n : Nat) (hn : n = l.length) (hown : w.ownsRow 0 5 1 v n (Base.u8s l)) (m : Nat) (hl : l.length + m ≤ 140737488355328) :
    ∃ v' w', (Builtin.append_ #[91, 3] ty #[v, .int .i64 (m : Int)]).run Tryz.prog w = .ok v' w' ∧ w'.ownsRow 0 5 1 v' (n + m) (Base.u8s (l ++ List.replicate m 0)) ∧ w.grownBy w' v.ownBlock ∧ (v'.ownBlock = v.ownBlock ∨ v'.ownBlock = some w.heap.size) := by
  obtain ⟨i0, hi, hz0, hz1, hz2⟩ := info_parts Base.info8
  have hwr : IntKind.i64.wrap (m : Int) = (m : Int) := by simp [IntKind.wrap, IntKind.bits, IntKind.signed]; omega
  have hu8 : Base.u8s (l ++ List.replicate m 0) = Base.u8s l ++ List.replicate m (Value.int .u8 0) := by simp [Base.u8s]
  have hai : ∀ w' : World, (asInt (.int .i64 (m : Int))).run Tryz.prog w' = .ok (m : Int) w' := fun _ => rfl
  have h0 : ¬ ((m : Int) < 0) := by omega
  have h48 : ¬ (281474976710656 < (m : Int)) := by omega
  have hpos : ∀ w' : World, ((if m * 1 = 0 then (pure #[] : Sem (Array Value)) else (do pure (Builtin.zeroCells (← zeroValue 5).cells m))).run Tryz.prog w') = .ok (List.replicate m (Value.int .u8 0)).toArray w' := by
    intro w'
    by_cases hm : m = 0
    · subst hm; simp
    · rw [if_neg (by omega)]
      simp [zeroValue, typeInfo, hi, hz0, Value.cells, zeros_one]
  have hlen : (Base.u8s (l ++ List.replicate m 0)).length = (n + m) * 1 := by rw [Base.u8s_length]; simp; omega
  have grown : ∀ (old : Nat), old < n + m → ∀ (row : Option Nat),
      (w.drew.alloc (.cells ((Base.u8s (l ++ List.replicate m 0)).toArray ++ (List.replicate (grownCap w (n + m) old 5 - (n + m)) (Value.int .u8 0)).toArray) 5)).ownsRow 0 5 1
        (.slice (some ⟨w.heap.size, 0, none⟩) (n + m) (grownCap w (n + m) old 5)) (n + m) (Base.u8s (l ++ List.replicate m 0)) ∧
      w.grownBy (w.drew.alloc (.cells ((Base.u8s (l ++ List.replicate m 0)).toArray ++ (List.replicate (grownCap w (n + m) old 5 - (n + m)) (Value.int .u8 0)).toArray) 5)) row := by
    intro old ho row
    have hge := grownCap_ge w (n + m) old 5
    have hcm : grownCap w (n + m) old 5 ≤ maxLen := grownCap_le_maxLen w (n + m) old 5 (by unfold maxLen; omega)
    refine ⟨⟨hlen, .inr ⟨w.heap.size, _, _, rfl, Nat.zero_le _, heap_alloc_new w.drew _, hge, hcm, ?_, ?_⟩⟩, ⟨rfl, rfl, rfl, by simp, fun k hk _ => heap_alloc_old w.drew _ hk⟩⟩
    · simp only [Array.size_append, List.size_toArray, hlen, List.length_replicate]
      omega
    · simp only [Array.toList_append]
      rw [← hlen]
      exact List.take_left
  rcases hown.2 with ⟨rfl, rfl⟩ | ⟨g, cap, cur, rfl, hbg, hg, hnc, hcm, hcs, htake⟩
  · have hl0 : l = [] := List.eq_nil_of_length_eq_zero hn.symm
    subst hl0
    by_cases hm : m = 0
    · subst hm
      refine ⟨.slice none 0 0, w, ?_, World.ownsRow_nil w 0 _ 1, ⟨rfl, rfl, rfl, Nat.le_refl _, fun _ _ _ => rfl⟩, Or.inl rfl⟩
      have hai0 : ∀ w' : World, (asInt (.int .i64 0)).run Tryz.prog w' = .ok 0 w' := fun _ => rfl
      have hwr0 : IntKind.i64.wrap 0 = 0 := rfl
      simp [Builtin.append_, run_underlying Tryz.underlying91, run_underlying Tryz.underlying3, sizeOf, typeInfo, hi, Builtin.lenOf, hai0, hwr0, hz2]
    · have hgr := grown 0 (by omega) (Value.ownBlock (.slice none 0 0))
      refine ⟨_, _, ?_, hgr.1, hgr.2, Or.inr rfl⟩
      have hg1 : ¬ (m ≤ 0) := by omega
      have hg2 : ¬ (9223372036854775807 < (m : Int)) := by omega
      have hg3 : ¬ (281474976710656 < Builtin.nextslicecap m 0) := by have := growslice_fits (old := 0) (need := 0 + m) (bytes := 1) (by omega) (by omega); simp only [Nat.zero_add, Nat.mul_one] at this; omega
      simp [Builtin.append_, run_underlying Tryz.underlying91, run_underlying Tryz.underlying3, sizeOf, typeInfo, zeroValue, hi, hz0, Builtin.lenOf, hai, hwr, h0, h48, hz1, hz2, hm, hg2, hg3, Question.forced, run_firstCells_none, newRow, grownCap, Value.cells, zeros_one, Base.u8s]
  · by_cases hroom : n + m ≤ cap
    · have hnl : (List.replicate m (Value.int .u8 0)).length = m := List.length_replicate
      have hfit : n * 1 + (List.replicate m (Value.int .u8 0)).length ≤ cur.size := by rw [hnl, hcs]; omega
      have hst := run_storeCells_at Tryz.prog g (n * 1) 5 (List.replicate m (Value.int .u8 0)) 0 cur w hg (by simpa using hfit) (fun u hu => by rw [List.eq_of_mem_replicate hu]; rfl)
      simp only [Nat.add_zero] at hst
      have hr : (Builtin.append_ #[91, 3] ty #[.slice (some ⟨g, 0, none⟩) n cap, .int .i64 (m : Int)]).run Tryz.prog w = .ok (.slice (some ⟨g, 0, none⟩) (n + m) cap) (w.setRow g (cur.toList.take (n * 1) ++ List.replicate m (Value.int .u8 0) ++ cur.toList.drop (n * 1 + (List.replicate m (Value.int .u8 0)).length)).toArray) := by
        by_cases hm : m = 0
        · subst hm
          have hai0 : ∀ w' : World, (asInt (.int .i64 0)).run Tryz.prog w' = .ok 0 w' := fun _ => rfl
          have hwr0 : IntKind.i64.wrap 0 = 0 := rfl
          simp only [List.replicate_zero] at hst ⊢
          simp [Builtin.append_, run_underlying Tryz.underlying91, run_underlying Tryz.underlying3, sizeOf, typeInfo, hi, Builtin.lenOf, hai0, hwr0, hz1, hz2, hnc, Addr.add_lit] at hst ⊢
          simp [hst]
        · simp [Builtin.append_, run_underlying Tryz.underlying91, run_underlying Tryz.underlying3, sizeOf, typeInfo, zeroValue, hi, hz0, Builtin.lenOf, hai, hwr, h0, h48, hz1, hz2, hm, hroom, Value.cells, zeros_one, Addr.add_lit] at hst ⊢
          simp [hst]
      refine ⟨_, _, hr, ⟨hlen, .inr ⟨g, cap, _, rfl, hbg, setRow_heap w g cur _ _ _ hg, hroom, hcm, ?_, ?_⟩⟩, ⟨rfl, rfl, rfl, by simp, fun k _ hk => setRow_other w g k _ (fun e => hk (by simp [Value.ownBlock, e]))⟩, Or.inl rfl⟩
      · simp only [List.size_toArray, List.length_append, List.length_take, List.length_drop, Array.length_toList]
        omega
      · rw [htake, hu8, show (n + m) * 1 = (Base.u8s l ++ List.replicate m (Value.int .u8 0)).length from by rw [List.length_append, Base.u8s_length]; simp; omega]
        exact List.take_left
    · have hgr := grown cap (by omega) (Value.ownBlock (.slice (some ⟨g, 0, none⟩) n cap))
      refine ⟨_, _, ?_, hgr.1, hgr.2, Or.inr rfl⟩
      have hm : ¬ m = 0 := by omega
      have hg2 : ¬ (9223372036854775807 < (n : Int) + (m : Int)) := by omega
      have hg3 : ¬ (281474976710656 < Builtin.nextslicecap (n + m) cap) := by have := growslice_fits (old := cap) (need := n + m) (bytes := 1) (by omega) (by omega); simp only [Nat.mul_one] at this; omega
      have hold := run_firstCells_some (P := Tryz.prog) w.drew 1 n ⟨g, 0, none⟩ n cap (Base.u8s l) hown.1 (hown.cells (g := g) rfl)
      simp [Builtin.append_, run_underlying Tryz.underlying91, run_underlying Tryz.underlying3, sizeOf, typeInfo, zeroValue, hi, hz0, Builtin.lenOf, hai, hwr, h0, h48, hz1, hz2, hm, hroom, hg2, hg3, Question.forced, hold, newRow, grownCap, Value.cells, zeros_one, hu8]
      refine congrArg (fun x => World.alloc w.drew (Obj.cells x 5)) ?_
      apply Array.ext'
      simp only [Array.toList_append, Array.toList_replicate, List.append_assoc, List.replicate_append_replicate]

end Go.Proofs.YtmmlefbokplnnaaGreatDoor.Row

namespace Go.Proofs.YtmmlefbokplnnaaGreatDoor.Disk
open Go.RowKit Go Go.Proofs.YtmmlefbokplnnaaGreatDoor.Base

def encStep : PStep → List Value
  | .cut t => [.bool true, .string (strN t), .int .i64 0]
  | .add n => [.bool false, .string ⟨#[]⟩, .int .i64 (n : Int)]
def encSteps (l : List PStep) : List Value := l.flatMap encStep

theorem encStep_length (s : PStep) : (encStep s).length = 3 := by cases s <;> rfl
theorem encSteps_length (l : List PStep) : (encSteps l).length = l.length * 3 := by
  induction l with
  | nil => rfl
  | cons s r ih => unfold encSteps at *; rw [List.flatMap_cons, List.length_append, ih, encStep_length, List.length_cons]; omega
theorem encSteps_append (l m : List PStep) : encSteps (l ++ m) = encSteps l ++ encSteps m := by simp [encSteps]
theorem encSteps_at (l : List PStep) (j : Nat) (hj : j < l.length) (c : Nat) (hc : c < 3) : (encSteps l)[j * 3 + c]? = (encStep (l[j]'hj))[c]? := by
  induction l generalizing j with
  | nil => simp at hj
  | cons s r ih =>
    have e : encSteps (s :: r) = encStep s ++ encSteps r := by simp [encSteps]
    rw [e]
    cases j with
    | zero => rw [List.getElem?_append_left (by rw [encStep_length]; omega)]; simp
    | succ j =>
      rw [List.getElem?_append_right (by rw [encStep_length]; omega), encStep_length, show (j + 1) * 3 + c - 3 = j * 3 + c from by omega]
      simp only [List.length_cons] at hj
      rw [ih j (by omega)]
      simp

/-- a file, in memory: its block, what its two slices are -/
structure FileAt (w : World) (fb : Nat) (bv sv : Value) (p : PF) : Prop where
  cells : w.heap[fb]? = some (.cells #[bv, sv] 94)
  bytes : w.ownsRow 0 5 1 bv p.bytes.length (u8s p.bytes)
  steps : w.ownsRow 0 135 3 sv p.steps.length (encSteps p.steps)

def fileOwn (fb : Nat) (bv sv : Value) : Nat → Prop := fun k => k = fb ∨ bv.ownBlock = some k ∨ sv.ownBlock = some k

theorem FileAt.lt {w : World} {fb : Nat} {bv sv : Value} {p : PF} (h : FileAt w fb bv sv p) : fb < w.heap.size := (Array.getElem?_eq_some_iff.1 h.cells).1
theorem FileAt.cell0 {w : World} {fb : Nat} {bv sv : Value} {p : PF} (h : FileAt w fb bv sv p) : w.cell? ⟨fb, 0, none⟩ = some bv := by rw [cell_of_row w fb 0 _ _ _ h.cells]; rfl
theorem FileAt.cell1 {w : World} {fb : Nat} {bv sv : Value} {p : PF} (h : FileAt w fb bv sv p) : w.cell? ⟨fb, 1, none⟩ = some sv := by rw [cell_of_row w fb 1 _ _ _ h.cells]; rfl
theorem FileAt.fro {w : World} {fb : Nat} {bv sv : Value} {p : PF} (h : FileAt w fb bv sv p) (i : Nat) : w.frozen? ⟨fb, i, none⟩ = false := by
  simp [World.frozen?, h.cells]

theorem row_of_block {w w' : World} {e : TypeId} {size : Nat} {v : Value} {n : Nat} {xs : List Value} (h : w.ownsRow 0 e size v n xs) (hb : ∀ k, v.ownBlock = some k → w'.heap[k]? = w.heap[k]?) : w'.ownsRow 0 e size v n xs := by
  refine ⟨h.1, ?_⟩
  rcases h.2 with h2 | ⟨g, cap, cur, rfl, h1, h2, h3⟩
  · exact .inl h2
  · exact .inr ⟨g, cap, cur, rfl, h1, (hb g rfl).trans h2, h3⟩

theorem row_lt {w : World} {e : TypeId} {size : Nat} {v : Value} {n : Nat} {xs : List Value} (h : w.ownsRow 0 e size v n xs) {k : Nat} (hk : v.ownBlock = some k) : k < w.heap.size := (h.lt k hk).2

theorem row_turn {S : Nat → Prop} {w w' : World} {e : TypeId} {size : Nat} {v : Value} {n : Nat} {xs : List Value} (h : w.ownsRow 0 e size v n xs) (ht : Turn S w w') (hn : ∀ k, v.ownBlock = some k → ¬ S k) : w'.ownsRow 0 e size v n xs :=
  row_of_block h fun k hk => ht.block k (row_lt h hk) (hn k hk)

theorem FileAt.turn {S : Nat → Prop} {w w' : World} {fb : Nat} {bv sv : Value} {p : PF} (h : FileAt w fb bv sv p) (ht : Turn S w w') (hn : ∀ k, fileOwn fb bv sv k → ¬ S k) : FileAt w' fb bv sv p :=
  ⟨(ht.block fb h.lt (hn fb (.inl rfl))).trans h.cells, row_turn h.bytes ht fun k hk => hn k (.inr (.inl hk)), row_turn h.steps ht fun k hk => hn k (.inr (.inr hk))⟩

/-- the blocks of a file are of different kinds -/
theorem row_cells {w : World} {e : TypeId} {size : Nat} {v : Value} {n : Nat} {xs : List Value} (h : w.ownsRow 0 e size v n xs) {k : Nat} (hk : v.ownBlock = some k) : ∃ cur, w.heap[k]? = some (.cells cur e (0, 0)) := by
  rcases h.2 with ⟨rfl, _⟩ | ⟨g, cap, cur, rfl, _, h2, _⟩
  · cases hk
  · simp only [Value.ownBlock, Option.some.injEq] at hk
    subst hk
    exact ⟨cur, h2⟩

theorem FileAt.apart {w : World} {fb : Nat} {bv sv : Value} {p : PF} (h : FileAt w fb bv sv p) : bv.ownBlock ≠ some fb ∧ sv.ownBlock ≠ some fb ∧ ∀ k, bv.ownBlock = some k → sv.ownBlock ≠ some k := by
  refine ⟨fun e => ?_, fun e => ?_, fun k e1 e2 => ?_⟩
  · obtain ⟨cur, hc⟩ := row_cells h.bytes e
    rw [h.cells] at hc; simp at hc
  · obtain ⟨cur, hc⟩ := row_cells h.steps e
    rw [h.cells] at hc; simp at hc
  · obtain ⟨c1, h1⟩ := row_cells h.bytes e1
    obtain ⟨c2, h2⟩ := row_cells h.steps e2
    rw [h1] at h2; simp at h2

/-- a step read out of its row -/
theorem step_at {w : World} {sv : Value} {l : List PStep} (h : w.ownsRow 0 135 3 sv l.length (encSteps l)) (hne : l ≠ []) :
    ∃ g cap, sv = .slice (some ⟨g, 0, none⟩) l.length cap ∧ g < w.heap.size ∧ ∀ j (hj : j < l.length) c, c < 3 → w.cell? ⟨g, j * 3 + c, none⟩ = (encStep (l[j]'hj))[c]? := by
  rcases h.2 with ⟨_, h0⟩ | ⟨g, cap, cur, rfl, h1, h2, h3⟩
  · exact absurd (List.eq_nil_of_length_eq_zero h0) hne
  · refine ⟨g, cap, rfl, (Array.getElem?_eq_some_iff.1 h2).1, fun j hj c hc => ?_⟩
    rw [← encSteps_at l j hj c hc]
    have hlt : j * 3 + c < (encSteps l).length := by rw [encSteps_length]; omega
    have := h.cells (g := g) rfl (j * 3 + c) _ (List.getElem?_eq_getElem hlt)
    rw [Go.WideShapes.add_plain] at this
    simp only [Nat.zero_add] at this
    rw [this, List.getElem?_eq_getElem hlt]

theorem stepUnits_any (s : PStep) (w : World) : Calls Tryz.prog 85 #[.agg (encStep s).toArray] w fun e w' => e = .returned (.int .i64 (s.units : Int)) ∧ Below w.heap.size w w' := by
  cases s with
  | cut t =>
    simp only [encStep, PStep.units]
    go_enter Tryz.func85, Tryz.ntmps85
    go_wp2
    go_ret
    exact ⟨rfl, below_alloc _ _⟩
  | add n =>
    simp only [encStep, PStep.units]
    go_enter Tryz.func85, Tryz.ntmps85
    go_wp2
    go_ret
    exact ⟨rfl, below_alloc _ _⟩

theorem unitsOf_take_succ (l : List PStep) (j : Nat) (hj : j < l.length) : unitsOf (l.take (j + 1)) = unitsOf (l.take j) + (l[j]'hj).units := by
  rw [List.take_succ_eq_append_getElem hj, unitsOf_append]
  simp [unitsOf]

theorem encStep_three (s : PStep) : ∃ x0 x1 x2, encStep s = [x0, x1, x2] ∧ x0.oneCell' = true ∧ x1.oneCell' = true ∧ x2.oneCell' = true := by
  cases s with
  | cut t => exact ⟨_, _, _, rfl, rfl, rfl, rfl⟩
  | add n => exact ⟨_, _, _, rfl, rfl, rfl, rfl⟩

theorem units_le_take (l : List PStep) (j : Nat) : unitsOf (l.take j) ≤ unitsOf l := by
  have := unitsOf_append (l.take j) (l.drop j)
  rw [List.take_append_drop] at this
  omega

set_option maxHeartbeats 1000000 in
theorem units_any (p : PF) (fb : Nat) (bv sv : Value) (w : World) (h : FileAt w fb bv sv p) (hb : unitsOf p.steps < 4611686018427387904) (hl : p.steps.length < 4611686018427387904) : Calls Tryz.prog 50 #[.pointer (some ⟨fb, 0, none⟩)] w fun e w' =>
    e = .returned (.int .i64 (unitsOf p.steps : Int)) ∧ Below w.heap.size w w' := by
  obtain ⟨bs, l⟩ := p
  simp only at hb hl
  have c1 := h.cell1
  have hrow := h.steps
  simp only at hrow
  by_cases hne : l = []
  · subst hne
    have hsv : ∃ ad cap, sv = .slice ad 0 cap := by
      rcases hrow.2 with ⟨h1, _⟩ | ⟨g, cap, cur, h1, _⟩
      · exact ⟨none, 0, h1⟩
      · exact ⟨_, _, h1⟩
    obtain ⟨ad, cap, rfl⟩ := hsv
    clear h hrow hb
    go_enter Tryz.func50, Tryz.ntmps50
    go_wp2_with fail
    refine wp_loop_rounds 1 ?_
    rw [rounds_succ]
    go_wp2
    go_ret
    exact ⟨rfl, Below.refl _ _⟩
  · obtain ⟨g, cap, rfl, hg, hcs⟩ := step_at hrow hne
    have HC := Lib.hid hcs
    have HB := Lib.hid hb
    obtain ⟨R, hR⟩ : ∃ R, unitsOf l = R := ⟨_, rfl⟩
    rw [hR]
    have HR := Lib.hid hR
    clear h hrow hcs hb hR
    obtain ⟨N, hN⟩ : ∃ N, l.length = N := ⟨_, rfl⟩
    have HN := Lib.hid hN
    rw [hN] at c1 hl
    clear hN
    go_enter Tryz.func50, Tryz.ntmps50
    go_wp2_with fail
    go_loopg [11, 3] N (fun r i tot wr => ∃ (j T : Nat), Hid (j + r = N) ∧ j ≤ N ∧ i = .int .i64 (j : Int) ∧ tot = .int .i64 (T : Int) ∧ Hid (T = unitsOf (l.take j)) ∧ Below w.heap.size w wr)
    case atStart => exact ⟨0, 0, Nat.zero_add _, Nat.zero_le _, rfl, rfl, rfl, Below.refl _ _⟩
    case round =>
      obtain ⟨j, T, hE, hj, rfl, rfl, HT, hbw⟩ := hrel
      by_cases hlt : j < N
      · have hjl : j < l.length := by rw [HN.out]; exact hlt
        obtain ⟨s, hs⟩ : ∃ s, l[j]'hjl = s := ⟨_, rfl⟩
        have HTS : Hid (T + s.units = unitsOf (l.take (j + 1))) := by
          show _ = _
          rw [unitsOf_take_succ l j hjl, hs, HT.out]
        have hT2 : T + s.units < 4611686018427387904 := by have := units_le_take l (j + 1); rw [← HTS.out] at this; have := HB.out; omega
        have d0 := HC.out j hjl 0 (by omega)
        have d1 := HC.out j hjl 1 (by omega)
        have d2 := HC.out j hjl 2 (by omega)
        rw [hs] at d0 d1 d2
        have hu : ∀ W, Calls Tryz.prog 85 #[.agg (encStep s).toArray] W fun e w' => e = .returned (.int .i64 (s.units : Int)) ∧ Below W.heap.size W w' := fun W => stepUnits_any s W
        clear hs hjl
        obtain ⟨u, hsu⟩ : ∃ u, s.units = u := ⟨_, rfl⟩
        rw [hsu] at HTS hT2 hu
        clear hsu
        cases s
        all_goals
          simp only [encStep, Nat.add_zero, List.getElem?_cons_zero, List.getElem?_cons_succ] at d0 d1 d2 hu
          rw [← hbw.cell (p := ⟨g, j * 3, none⟩) hg] at d0
          rw [← hbw.cell (p := ⟨g, j * 3 + 1, none⟩) hg] at d1
          rw [← hbw.cell (p := ⟨g, j * 3 + 2, none⟩) hg] at d2
          have HU := Lib.hid hu
          clear hu
          have HW := Lib.hid hbw
          clear hbw
          go_wp2_with (go_at_call 85; refine (HU.out _).mono ?_; rintro e w2 ⟨rfl, hb2⟩)
          go_roundg (N - (j + 1))
          case measure => have := hE.out; omega
          case rel =>
            refine ⟨j + 1, T + u, by show _ = _; omega, by omega, by go_num, by go_num, HTS.out, ?_⟩
            exact HW.out.trans ((below_then (below_alloc _ _) hb2).mono HW.out.size)
      · obtain rfl : j = N := by omega
        have hTR : T = R := by rw [HT.out, ← HR.out, ← HN.out, List.take_length]
        subst hTR
        clear hE hlt
        go_wp2
        go_ret
        exact ⟨rfl, hbw⟩

end Go.Proofs.YtmmlefbokplnnaaGreatDoor.Disk
