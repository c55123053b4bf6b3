/-
  Appends to rows of one's own, whatever is appended: a text's bytes, zero bytes, structs; rows that are cut shorter; what a disk's calls may turn. Own text.
-/
import Derived.Test.YtanbmlikfhcpoaaDoorBase
import Derived.Deep.AppendSrc
import Derived.OwnWalk
import Derived.BigFrame
namespace Go.Proofs.YtanbmlikfhcpoaaDoor.Row
open Go.RowKit Go

section
variable {P : Program} (w : World)

theorem append_src (t tx ty e : TypeId) (i : TypeInfo) (z : Value) (size bytes : Nat) (ht : P.underlying t = some (.slice e)) (hi : P.info? e = some i) (hz : i.zero = some z)
    (hsize : i.size = size) (hby : i.bytes = bytes) (hzs : z.cells.size = size) (hsz : 0 < size)
    (v : Value) (n : Nat) (xs : List Value) (hown : w.ownsRow 0 e size v n xs) (x : Value) (m : Nat) (news : List Value) (hs : Src P size tx x m news w)
    (h63 : n + m ≤ maxLen) (hbytes : (n + m) * bytes ≤ 140737488355328) :
    ∃ v' w', (Builtin.append_ #[t, tx] ty #[v, x]).run P w = .ok v' w' ∧ w'.ownsRow 0 e size v' (n + m) (xs ++ news) ∧ w.grownBy w' v.ownBlock ∧ (v'.ownBlock = v.ownBlock ∨ v'.ownBlock = some w.heap.size) := by
  subst hsize
  subst hby
  have hl := hs.newsLen
  have hsmall : n + m ≤ 9223372036854775807 := by simp only [maxLen] at h63; omega
  have hlen : (xs ++ news).length = (n + m) * i.size := by rw [List.length_append, hown.1, hl, Nat.add_mul]
  have grown : ∀ (old : Nat), old < n + m → ∀ (row : Option Nat),
      (w.drew.alloc (.cells ((xs ++ news).toArray ++ Builtin.zeroCells z.cells (grownCap w (n + m) old e - (n + m))) e)).ownsRow 0 e i.size
        (.slice (some ⟨w.heap.size, 0, none⟩) (n + m) (grownCap w (n + m) old e)) (n + m) (xs ++ news) ∧
      w.grownBy (w.drew.alloc (.cells ((xs ++ news).toArray ++ Builtin.zeroCells z.cells (grownCap w (n + m) old e - (n + m))) e)) row := by
    intro old ho row
    have hge := grownCap_ge w (n + m) old e
    have hcm : grownCap w (n + m) old e ≤ maxLen := grownCap_le_maxLen w (n + m) old e h63
    refine ⟨⟨hlen, .inr ⟨w.heap.size, _, _, rfl, Nat.zero_le _, heap_alloc_new w.drew _, hge, hcm, ?_, ?_⟩⟩, ⟨rfl, rfl, rfl, by simp, fun k hk _ => heap_alloc_old w.drew _ hk⟩⟩
    · simp only [Array.size_append, List.size_toArray, size_zeroCells, hzs]
      rw [hlen, ← Nat.add_mul]
      congr 1
      omega
    · simp only [Array.toList_append]
      rw [← hlen]
      exact List.take_left
  rcases hown.2 with ⟨rfl, rfl⟩ | ⟨g, cap, cur, rfl, hbg, hg, hnc, hcm, hcs, htake⟩
  · have hx : xs = [] := List.eq_nil_of_length_eq_zero (by simpa using hown.1)
    subst hx
    by_cases hm : m = 0
    · subst hm
      have hn : news = [] := List.eq_nil_of_length_eq_zero (by simpa using hl)
      subst hn
      refine ⟨.slice none 0 0, w, ?_, World.ownsRow_nil w 0 e i.size, ⟨rfl, rfl, rfl, Nat.le_refl _, fun _ _ _ => rfl⟩, Or.inl rfl⟩
      rcases hs.kind with ⟨e', hk⟩ | hk <;> simp [Builtin.append_, run_underlying ht, run_underlying hk, sizeOf, typeInfo, hi, hs.len, hs.cells]
    · have hr := run_append_grow_src (P := P) w t tx ty e i z ht hi hz none 0 0 [] (by simp [run_firstCells_none]) x m news hs (by omega) (by omega) (growslice_fits (by omega) hbytes)
      have hgr := grown 0 (by omega) (Value.ownBlock (.slice none 0 0))
      exact ⟨_, _, hr, hgr.1, hgr.2, Or.inr rfl⟩
  · by_cases hroom : n + m ≤ cap
    · have hfit : n * i.size + news.length ≤ cur.size := by rw [hl, hcs, ← Nat.add_mul]; exact Nat.mul_le_mul_right _ hroom
      have hst := run_storeCells_at P g (n * i.size) e news 0 cur w hg (by simpa using hfit) hs.one
      simp only [Nat.add_zero] at hst
      have hr : (Builtin.append_ #[t, tx] ty #[.slice (some ⟨g, 0, none⟩) n cap, x]).run P w = .ok (.slice (some ⟨g, 0, none⟩) (n + m) cap) (w.setRow g (cur.toList.take (n * i.size) ++ news ++ cur.toList.drop (n * i.size + news.length)).toArray) := by
        rcases hs.kind with ⟨e', hk⟩ | hk <;> simp [Builtin.append_, run_underlying ht, run_underlying hk, sizeOf, typeInfo, hi, hs.len, hroom, hs.cells, Addr.add_lit, hst]
      refine ⟨_, _, hr, ⟨hlen, .inr ⟨g, cap, _, rfl, hbg, setRow_heap w g cur _ e _ hg, hroom, hcm, ?_, ?_⟩⟩, ⟨rfl, rfl, rfl, by simp, fun k _ hk => setRow_other w g k _ (fun e => hk (by simp [Value.ownBlock, e]))⟩, Or.inl rfl⟩
      · simp only [List.size_toArray, List.length_append, List.length_take, List.length_drop, Array.length_toList]
        omega
      · rw [htake, ← hlen]
        exact List.take_left
    · have holds : ∀ j u, xs[j]? = some u → w.drew.cell? ((⟨g, 0, none⟩ : Addr).add j) = some u := hown.cells (g := g) rfl
      have hr := run_append_grow_src (P := P) w t tx ty e i z ht hi hz (some ⟨g, 0, none⟩) n cap xs (run_firstCells_some w.drew i.size n _ n cap xs hown.1 holds) x m news hs (by omega) (by omega) (growslice_fits (by omega) hbytes)
      have hgr := grown cap (by omega) (Value.ownBlock (.slice (some ⟨g, 0, none⟩) n cap))
      exact ⟨_, _, hr, hgr.1, hgr.2, Or.inr rfl⟩

end

/-- an append, by what it comes to -/
theorem append_by {P : Program} {ops : Array Oper} {rest : List Oper} {o : Oper} {a : Act} {Q : Exit → Act → World → Prop} {w w' : World} {v' : Value} (hw : Region.wanted o (yielded ops a.tmps) = true) (s x : Operand) (ts : Array TypeId)
    (ho : o.op = .call { callee := .builtin .append, args := #[s, x], argTypes := ts }) (u v : Value) (hs : a.eval s = u) (hx : a.eval x = v)
    (hrun : (Builtin.append_ ts o.type #[u, v]).run P w = .ok v' w') (h : wpList P ops Q rest (a.put o.dst v') w') : wpList P ops Q (o :: rest) a w := by
  refine BigFrame.wpList_want hw fun K hK => ?_
  unfold Oper.wp execOp
  simp only [ho, resolve, invoke, builtin, Sem.run_bind, Sem.run_pure, Result.andThen_ok, List.map_toArray, List.map_cons, List.map_nil, hs, hx, hrun]
  exact hK _ _ h

/-- an append as one step of a region that draws, by what it comes to -/
theorem step_by {P : Program} {ops : Array Oper} {o : Oper} {a : Act} {w w' : World} {K : Act → World → Prop} {Q : Exit → Act → World → Prop} {E : Prop} {r : Value}
    (hg : o.guard = none) (s x : Operand) (ts : Array TypeId) (hop : o.op = Op.call { callee := Callee.builtin Builtin.append, args := #[s, x], argTypes := ts }) (u v : Value) (hs : a.eval s = u) (hx : a.eval x = v)
    (hrun : (Builtin.append_ ts o.type #[u, v]).run P w = .ok r w') (hK : K (a.put o.dst r) w') : if Region.wanted o (yielded ops a.tmps) = true then Oper.wp P o a w K Q else E := by
  have hw : Region.wanted o (yielded ops a.tmps) = true := by simp [Region.wanted, hg]
  rw [if_pos hw]
  unfold Oper.wp
  simp [execOp, hop, resolve, invoke, builtin, hs, hx, hrun, Result.andThen]
  exact hK

theorem byteCells_eq (s : ByteArray) : byteCells s = Base.u8s (Base.nums s) := by
  unfold byteCells Base.u8s Base.nums
  rw [List.map_map]
  rfl

/-- a text's bytes, behind bytes -/
theorem append_text (w : World) (ty : TypeId) (v : Value) (l : List Nat) (n : Nat) (hn : n = l.length) (hown : w.ownsRow 0 5 1 v n (Base.u8s l)) (s : ByteArray) (hl : l.length + s.size ≤ 140737488355328) :
    ∃ v' w', (Builtin.append_ #[30, 9] ty #[v, .string s]).run Tryd.prog w = .ok v' w' ∧ w'.ownsRow 0 5 1 v' (n + s.size) (Base.u8s (l ++ Base.nums s)) ∧ w.grownBy w' v.ownBlock ∧ (v'.ownBlock = v.ownBlock ∨ v'.ownBlock = some w.heap.size) := by
  obtain ⟨i0, hi, hz0, hz1, hz2⟩ := info_parts Base.info8
  obtain ⟨v', w', h1, h2, h3, h4⟩ := append_src (P := Tryd.prog) w 30 9 ty 5 i0 (.int .u8 0) 1 1 Tryd.underlying30 hi hz0 hz1 hz2 rfl (by decide) v n _ hown (.string s) s.size (byteCells s) (Src.ofString w Tryd.underlying9 s) (by unfold maxLen; omega) (by omega)
  rw [byteCells_eq, ← Base.u8s_append] at h2
  exact ⟨v', w', h1, h2, h3, h4⟩

theorem zeros_one (v : Value) (n : Nat) : Builtin.zeroCells #[v] n = (List.replicate n v).toArray := by
  unfold Builtin.zeroCells
  apply Array.ext'
  simp only [List.size_toArray, List.length_cons, List.length_nil, Nat.mul_one, Array.toList_map, Array.toList_range, Nat.zero_add]
  apply List.ext_getElem?
  intro j
  by_cases hj : j < n
  · simp [hj, Nat.mod_one]
  · simp [hj]

/-- zero bytes, behind bytes -/
theorem append_zeros (w : World) (ty : TypeId) (v : Value) (l : List Nat) (n : Nat) (hn : n = l.length) (hown : w.ownsRow 0 5 1 v n (Base.u8s l)) (m : Nat) (hl : l.length + m ≤ 140737488355328) :
    ∃ v' w', (Builtin.append_ #[30, 3] ty #[v, .int .i64 (m : Int)]).run Tryd.prog w = .ok v' w' ∧ w'.ownsRow 0 5 1 v' (n + m) (Base.u8s (l ++ List.replicate m 0)) ∧ w.grownBy w' v.ownBlock ∧ (v'.ownBlock = v.ownBlock ∨ v'.ownBlock = some w.heap.size) := by
  obtain ⟨i0, hi, hz0, hz1, hz2⟩ := info_parts Base.info8
  have hwr : IntKind.i64.wrap (m : Int) = (m : Int) := by simp [IntKind.wrap, IntKind.bits, IntKind.signed]; omega
  have hu8 : Base.u8s (l ++ List.replicate m 0) = Base.u8s l ++ List.replicate m (Value.int .u8 0) := by simp [Base.u8s]
  have hai : ∀ w' : World, (asInt (.int .i64 (m : Int))).run Tryd.prog w' = .ok (m : Int) w' := fun _ => rfl
  have h0 : ¬ ((m : Int) < 0) := by omega
  have h48 : ¬ (281474976710656 < (m : Int)) := by omega
  have hpos : ∀ w' : World, ((if m * 1 = 0 then (pure #[] : Sem (Array Value)) else (do pure (Builtin.zeroCells (← zeroValue 5).cells m))).run Tryd.prog w') = .ok (List.replicate m (Value.int .u8 0)).toArray w' := by
    intro w'
    by_cases hm : m = 0
    · subst hm; simp
    · rw [if_neg (by omega)]
      simp [zeroValue, typeInfo, hi, hz0, Value.cells, zeros_one]
  have hlen : (Base.u8s (l ++ List.replicate m 0)).length = (n + m) * 1 := by rw [Base.u8s_length]; simp; omega
  have grown : ∀ (old : Nat), old < n + m → ∀ (row : Option Nat),
      (w.drew.alloc (.cells ((Base.u8s (l ++ List.replicate m 0)).toArray ++ (List.replicate (grownCap w (n + m) old 5 - (n + m)) (Value.int .u8 0)).toArray) 5)).ownsRow 0 5 1
        (.slice (some ⟨w.heap.size, 0, none⟩) (n + m) (grownCap w (n + m) old 5)) (n + m) (Base.u8s (l ++ List.replicate m 0)) ∧
      w.grownBy (w.drew.alloc (.cells ((Base.u8s (l ++ List.replicate m 0)).toArray ++ (List.replicate (grownCap w (n + m) old 5 - (n + m)) (Value.int .u8 0)).toArray) 5)) row := by
    intro old ho row
    have hge := grownCap_ge w (n + m) old 5
    have hcm : grownCap w (n + m) old 5 ≤ maxLen := grownCap_le_maxLen w (n + m) old 5 (by unfold maxLen; omega)
    refine ⟨⟨hlen, .inr ⟨w.heap.size, _, _, rfl, Nat.zero_le _, heap_alloc_new w.drew _, hge, hcm, ?_, ?_⟩⟩, ⟨rfl, rfl, rfl, by simp, fun k hk _ => heap_alloc_old w.drew _ hk⟩⟩
    · simp only [Array.size_append, List.size_toArray, hlen, List.length_replicate]
      omega
    · simp only [Array.toList_append]
      rw [← hlen]
      exact List.take_left
  rcases hown.2 with ⟨rfl, rfl⟩ | ⟨g, cap, cur, rfl, hbg, hg, hnc, hcm, hcs, htake⟩
  · have hl0 : l = [] := List.eq_nil_of_length_eq_zero hn.symm
    subst hl0
    by_cases hm : m = 0
    · subst hm
      refine ⟨.slice none 0 0, w, ?_, World.ownsRow_nil w 0 _ 1, ⟨rfl, rfl, rfl, Nat.le_refl _, fun _ _ _ => rfl⟩, Or.inl rfl⟩
      have hai0 : ∀ w' : World, (asInt (.int .i64 0)).run Tryd.prog w' = .ok 0 w' := fun _ => rfl
      have hwr0 : IntKind.i64.wrap 0 = 0 := rfl
      simp [Builtin.append_, run_underlying Tryd.underlying30, run_underlying Tryd.underlying3, sizeOf, typeInfo, hi, Builtin.lenOf, hai0, hwr0, hz2]
    · have hgr := grown 0 (by omega) (Value.ownBlock (.slice none 0 0))
      refine ⟨_, _, ?_, hgr.1, hgr.2, Or.inr rfl⟩
      have hg1 : ¬ (m ≤ 0) := by omega
      have hg2 : ¬ (9223372036854775807 < (m : Int)) := by omega
      have hg3 : ¬ (281474976710656 < Builtin.nextslicecap m 0) := by have := growslice_fits (old := 0) (need := 0 + m) (bytes := 1) (by omega) (by omega); simp only [Nat.zero_add, Nat.mul_one] at this; omega
      simp [Builtin.append_, run_underlying Tryd.underlying30, run_underlying Tryd.underlying3, sizeOf, typeInfo, zeroValue, hi, hz0, Builtin.lenOf, hai, hwr, h0, h48, hz1, hz2, hm, hg2, hg3, Question.forced, run_firstCells_none, newRow, grownCap, Value.cells, zeros_one, Base.u8s]
  · by_cases hroom : n + m ≤ cap
    · have hnl : (List.replicate m (Value.int .u8 0)).length = m := List.length_replicate
      have hfit : n * 1 + (List.replicate m (Value.int .u8 0)).length ≤ cur.size := by rw [hnl, hcs]; omega
      have hst := run_storeCells_at Tryd.prog g (n * 1) 5 (List.replicate m (Value.int .u8 0)) 0 cur w hg (by simpa using hfit) (fun u hu => by rw [List.eq_of_mem_replicate hu]; rfl)
      simp only [Nat.add_zero] at hst
      have hr : (Builtin.append_ #[30, 3] ty #[.slice (some ⟨g, 0, none⟩) n cap, .int .i64 (m : Int)]).run Tryd.prog w = .ok (.slice (some ⟨g, 0, none⟩) (n + m) cap) (w.setRow g (cur.toList.take (n * 1) ++ List.replicate m (Value.int .u8 0) ++ cur.toList.drop (n * 1 + (List.replicate m (Value.int .u8 0)).length)).toArray) := by
        by_cases hm : m = 0
        · subst hm
          have hai0 : ∀ w' : World, (asInt (.int .i64 0)).run Tryd.prog w' = .ok 0 w' := fun _ => rfl
          have hwr0 : IntKind.i64.wrap 0 = 0 := rfl
          simp only [List.replicate_zero] at hst ⊢
          simp [Builtin.append_, run_underlying Tryd.underlying30, run_underlying Tryd.underlying3, sizeOf, typeInfo, hi, Builtin.lenOf, hai0, hwr0, hz1, hz2, hnc, Addr.add_lit] at hst ⊢
          simp [hst]
        · simp [Builtin.append_, run_underlying Tryd.underlying30, run_underlying Tryd.underlying3, sizeOf, typeInfo, zeroValue, hi, hz0, Builtin.lenOf, hai, hwr, h0, h48, hz1, hz2, hm, hroom, Value.cells, zeros_one, Addr.add_lit] at hst ⊢
          simp [hst]
      refine ⟨_, _, hr, ⟨hlen, .inr ⟨g, cap, _, rfl, hbg, setRow_heap w g cur _ _ _ hg, hroom, hcm, ?_, ?_⟩⟩, ⟨rfl, rfl, rfl, by simp, fun k _ hk => setRow_other w g k _ (fun e => hk (by simp [Value.ownBlock, e]))⟩, Or.inl rfl⟩
      · simp only [List.size_toArray, List.length_append, List.length_take, List.length_drop, Array.length_toList]
        omega
      · rw [htake, hu8, show (n + m) * 1 = (Base.u8s l ++ List.replicate m (Value.int .u8 0)).length from by rw [List.length_append, Base.u8s_length]; simp; omega]
        exact List.take_left
    · have hgr := grown cap (by omega) (Value.ownBlock (.slice (some ⟨g, 0, none⟩) n cap))
      refine ⟨_, _, ?_, hgr.1, hgr.2, Or.inr rfl⟩
      have hm : ¬ m = 0 := by omega
      have hg2 : ¬ (9223372036854775807 < (n : Int) + (m : Int)) := by omega
      have hg3 : ¬ (281474976710656 < Builtin.nextslicecap (n + m) cap) := by have := growslice_fits (old := cap) (need := n + m) (bytes := 1) (by omega) (by omega); simp only [Nat.mul_one] at this; omega
      have hold := run_firstCells_some (P := Tryd.prog) w.drew 1 n ⟨g, 0, none⟩ n cap (Base.u8s l) hown.1 (hown.cells (g := g) rfl)
      simp [Builtin.append_, run_underlying Tryd.underlying30, run_underlying Tryd.underlying3, sizeOf, typeInfo, zeroValue, hi, hz0, Builtin.lenOf, hai, hwr, h0, h48, hz1, hz2, hm, hroom, hg2, hg3, Question.forced, hold, newRow, grownCap, Value.cells, zeros_one, hu8]
      refine congrArg (fun x => World.alloc w.drew (Obj.cells x 5)) ?_
      apply Array.ext'
      simp only [Array.toList_append, Array.toList_replicate, List.append_assoc, List.replicate_append_replicate]

end Go.Proofs.YtanbmlikfhcpoaaDoor.Row
