/-
  The law's lists in memory: texts, numbers; how they come in; copies of one's own; a path's text. Own text.
-/
import Derived.Test.YtanbmlikfhcpoaaDoorDSafeC
import Derived.Test.YtanbmlikfhcpoaaDoorLOrd
import Derived.Test.YtanbmlikfhcpoaaDoorLaw
import Derived.Test.YtanbmlikfhcpoaaDoorUpto
import Derived.SizedLaws
namespace Go.Proofs.YtanbmlikfhcpoaaDoor.Disk
open Go.RowKit Go Go.Proofs.YtanbmlikfhcpoaaDoor.Base Go.Proofs.YtanbmlikfhcpoaaDoor.Map Go.ChangeShapes Go.WideShapes Go.ChangeAt Go.Deep Go.Proofs.YtanbmlikfhcpoaaDoor.Law

def strs (l : List ByteArray) : List Value := l.map Value.string
theorem strs_at {l : List ByteArray} {j : Nat} (h : j < l.length) : (strs l)[j]? = some (.string l[j]!) := by
  unfold strs
  rw [List.getElem?_map, List.getElem?_eq_getElem h, getElem!_pos l j h]
  rfl
/-- the cells of a list of texts -/
def TxAt (w : World) (ao : Option Addr) (l : List ByteArray) : Prop :=
  ∀ j, j < l.length → ∃ b off, ao = some ⟨b, off, none⟩ ∧ b < w.heap.size ∧ w.cell? ⟨b, off + j, none⟩ = some (.string l[j]!)
theorem TxAt.below {w w' : World} {ao : Option Addr} {l : List ByteArray} (h : TxAt w ao l) (hb : Below w.heap.size w w') : TxAt w' ao l := fun j hj => by
  obtain ⟨b, off, h1, h2, h3⟩ := h j hj
  have hs := hb.size
  exact ⟨b, off, h1, by omega, (hb.cell (p := ⟨b, off + j, none⟩) h2).trans h3⟩
theorem TxAt.src {w : World} {ao : Option Addr} {cap : Nat} {l : List ByteArray} (h : TxAt w ao l) : Src Tryd.prog 1 22 (.slice ao l.length cap) l.length (strs l) w := by
  have one : ∀ u ∈ strs l, u.oneCell' = true := fun u hu => by
    obtain ⟨x, _, rfl⟩ := List.mem_map.1 hu
    rfl
  have hlen : (strs l).length = l.length := by simp [strs]
  cases ao with
  | none =>
    have h0 : l = [] := by
      cases l with
      | nil => rfl
      | cons a r => obtain ⟨b, off, e, _⟩ := h 0 (by simp); cases e
    subst h0
    exact Src.ofNil w Tryd.underlying22 cap
  | some a =>
    refine Src.ofSlice w Tryd.underlying22 _ l.length cap _ (by rw [hlen, Nat.mul_one]) ?_ one
    intro j u hj
    have hjl : j < l.length := by
      rcases Nat.lt_or_ge j l.length with h | h
      · exact h
      · rw [List.getElem?_eq_none (by rw [hlen]; omega)] at hj; cases hj
    obtain ⟨b, off, e, _, hc⟩ := h j hjl
    injection e with e
    subst e
    rw [Go.WideShapes.add_plain, hc, ← strs_at hjl, hj]
/-- the cells of a list of numbers -/
def IntsAt (w : World) (ao : Option Addr) (l : List Int) : Prop :=
  ∀ j, j < l.length → ∃ b off, ao = some ⟨b, off, none⟩ ∧ b < w.heap.size ∧ w.cell? ⟨b, off + j, none⟩ = some (.int .i64 l[j]!)
theorem IntsAt.below {w w' : World} {ao : Option Addr} {l : List Int} (h : IntsAt w ao l) (hb : Below w.heap.size w w') : IntsAt w' ao l := fun j hj => by
  obtain ⟨b, off, h1, h2, h3⟩ := h j hj
  have hs := hb.size
  exact ⟨b, off, h1, by omega, (hb.cell (p := ⟨b, off + j, none⟩) h2).trans h3⟩
theorem ints_at {l : List Int} {j : Nat} (h : j < l.length) : (ints l)[j]? = some (.int .i64 l[j]!) := by
  unfold ints
  rw [List.getElem?_map, List.getElem?_eq_getElem h, getElem!_pos l j h]
  rfl
theorem IntsAt.src {w : World} {ao : Option Addr} {cap : Nat} {l : List Int} (h : IntsAt w ao l) : Src Tryd.prog 1 23 (.slice ao l.length cap) l.length (ints l) w := by
  have one : ∀ u ∈ ints l, u.oneCell' = true := fun u hu => by
    obtain ⟨x, _, rfl⟩ := List.mem_map.1 hu
    rfl
  have hlen : (ints l).length = l.length := by simp [ints]
  cases ao with
  | none =>
    have h0 : l = [] := by
      cases l with
      | nil => rfl
      | cons a r => obtain ⟨b, off, e, _⟩ := h 0 (by simp); cases e
    subst h0
    exact Src.ofNil w Tryd.underlying23 cap
  | some a =>
    refine Src.ofSlice w Tryd.underlying23 _ l.length cap _ (by rw [hlen, Nat.mul_one]) ?_ one
    intro j u hj
    have hjl : j < l.length := by
      rcases Nat.lt_or_ge j l.length with h | h
      · exact h
      · rw [List.getElem?_eq_none (by rw [hlen]; omega)] at hj; cases hj
    obtain ⟨b, off, e, _, hc⟩ := h j hjl
    injection e with e
    subst e
    rw [Go.WideShapes.add_plain, hc, ← ints_at hjl, hj]

theorem int_info : (Tryd.prog.info? 3).map (fun i => (i.zero, i.size, i.bytes)) = some (some (.int .i64 0), 1, 8) := by kernel_rfl

/-- a list of one's own, behind which another list's values are laid -/
theorem row_join {ts e : TypeId} {z : Value} {q : Nat} (hu : Tryd.prog.underlying ts = some (.slice e)) (hi : (Tryd.prog.info? e).map (fun i => (i.zero, i.size, i.bytes)) = some (some z, 1, q)) (hz : z.cells.size = 1) {w W : World} (hb : Below w.heap.size w W) {v : Value} {n : Nat} {vs : List Value}
    (h : W.ownsRow 0 e 1 v n vs) (hnew : ∀ k, v.ownBlock = some k → w.heap.size ≤ k) {x : Value} {m : Nat} {news : List Value} (hs : Src Tryd.prog 1 ts x m news W) (h63 : n + m ≤ maxLen) (hl : (n + m) * q ≤ 140737488355328) :
    ∃ v' w', (Builtin.append_ #[ts, ts] ts #[v, x]).run Tryd.prog W = .ok v' w' ∧ w'.ownsRow 0 e 1 v' (n + m) (vs ++ news) ∧ Below w.heap.size w w' ∧ (∀ k, v'.ownBlock = some k → w.heap.size ≤ k) := by
  obtain ⟨i0, hi, hz0, hz1, hz2⟩ := info_parts hi
  obtain ⟨v', w', h1, h2, h3, h4⟩ := Row.append_src (P := Tryd.prog) W ts ts ts e i0 z 1 q hu hi hz0 hz1 hz2 hz (by decide) v n _ h x m _ hs h63 hl
  refine ⟨v', w', h1, h2, hb.grown h3 hb.size hnew, fun k hk => ?_⟩
  rcases h4 with e | e
  · exact hnew k (by rw [← e]; exact hk)
  · rw [hk] at e
    injection e with e
    have := hb.size
    omega
theorem texts_of_row {w : World} {n : Nat} {v : Value} {l : List ByteArray} (hn : n = l.length) (h : w.ownsRow 0 9 1 v n (strs l)) : ∃ ao cap, v = .slice ao n cap ∧ TxAt w ao l := by
  rcases h.2 with ⟨rfl, h0⟩ | ⟨g, cap, cur, rfl, hb0, h2, h3, h4, h5, h6⟩
  · rw [h0]
    exact ⟨none, 0, rfl, fun j hj => by omega⟩
  · refine ⟨_, cap, rfl, fun j hj => ⟨g, 0, rfl, (Array.getElem?_eq_some_iff.1 h2).1, ?_⟩⟩
    have hc := strs_at hj
    rw [← h6] at hc
    rw [List.getElem?_take_of_lt (by omega), Array.getElem?_toList] at hc
    simp only [World.cell?, h2, Nat.zero_add]
    simp only [Option.isSome_none, Bool.false_eq_true, if_false]
    exact hc

/-- both lists, one behind the other -/
theorem both {w W : World} (hb : Below w.heap.size w W) {ao bo : Option Addr} {ca cb : Nat} {l m : List ByteArray} (hl : TxAt W ao l) (hm : TxAt W bo m) (hn : l.length + m.length ≤ 1048576) :
    ∃ v1 w1 a2 c2 w2, (Builtin.append_ #[22, 22] 22 #[.slice none 0 0, .slice ao l.length ca]).run Tryd.prog W = .ok v1 w1 ∧
      (Builtin.append_ #[22, 22] 22 #[v1, .slice bo m.length cb]).run Tryd.prog w1 = .ok (.slice a2 (l.length + m.length) c2) w2 ∧ Below w.heap.size w w2 ∧ Below W.heap.size W w2 ∧ TxAt w2 a2 (l ++ m) := by
  obtain ⟨v1, w1, h1, h2, h3, h4⟩ := row_join Tryd.underlying22 str_info rfl (Below.refl W.heap.size W) (World.ownsRow_nil W 0 9 1) (fun k hk => (by cases hk)) (hl.src (cap := ca)) (by unfold maxLen; omega) (by omega)
  simp only [Nat.zero_add, List.nil_append] at h2
  obtain ⟨v2, w2, k1, k2, k3, k4⟩ := row_join Tryd.underlying22 str_info rfl h3 h2 h4 ((hm.below h3).src (cap := cb)) (by unfold maxLen; omega) (by omega)
  have e : strs l ++ strs m = strs (l ++ m) := by simp [strs]
  rw [e] at k2
  obtain ⟨a2, c2, rfl, k5⟩ := texts_of_row (by simp) k2
  exact ⟨v1, w1, a2, c2, w2, h1, k1, hb.trans (k3.mono hb.size), k3, k5⟩
/-- the numbers, in a list of one's own -/
theorem copied {W : World} {ao : Option Addr} {ca : Nat} {l : List Int} (hl : IntsAt W ao l) (hn : l.length ≤ 1048576) :
    ∃ v1 w1, (Builtin.append_ #[23, 23] 23 #[.slice none 0 0, .slice ao l.length ca]).run Tryd.prog W = .ok v1 w1 ∧ w1.ownsRow 0 3 1 v1 l.length (ints l) ∧ Below W.heap.size W w1 := by
  obtain ⟨v1, w1, h1, h2, h3, h4⟩ := row_join Tryd.underlying23 int_info rfl (Below.refl W.heap.size W) (World.ownsRow_nil W 0 3 1) (fun k hk => (by cases hk)) (hl.src (cap := ca)) (by unfold maxLen; omega) (by omega)
  simp only [Nat.zero_add, List.nil_append] at h2
  exact ⟨v1, w1, h1, h2, h3⟩

/-- a file's name, out of its byte -/
theorem nm_conv (W : World) (i : Nat) : (convert 30 9 (.slice (some ⟨W.heap.size, 0, none⟩) 1 1)).run Tryd.prog (W.alloc (.cells #[.int .u8 ((97 + i : Nat) : Int)] 5)) = .ok (.string (nm i)) (W.alloc (.cells #[.int .u8 ((97 + i : Nat) : Int)] 5)) :=
  conv_own (World.ownsRow_lit W #[.int .u8 ((97 + i : Nat) : Int)] 1 (Nat.zero_le _) (by decide) rfl : World.ownsRow _ 0 5 1 _ 1 (u8s [97 + i]))

theorem starts_str (t : ByteArray) (e : List Nat) : t.size ≤ (strN (nums t ++ e)).size ∧ (strN (nums t ++ e)).extract 0 t.size = t := by
  have hl : (nums t).length = t.size := nums_length t
  refine ⟨by rw [strN_size, List.length_append, hl]; omega, ?_⟩
  have hs : strN (nums t ++ e) = t ++ strN e := by
    have : strN (nums t ++ e) = strN (nums t) ++ strN e := by
      apply ByteArray.ext
      simp [strN, ByteArray.data_append]
    rw [this, nums_strN]
  rw [hs]
  apply nums_inj
  rw [nums_extract, nums_append, List.drop_zero, Nat.sub_zero, ← hl, List.take_left]

/-! ### what comes in -/
def wtX : List ByteArray → Nat
  | [] => 0
  | s :: r => s.size + 1 + wtX r
theorem wtX_length : ∀ l : List ByteArray, l.length ≤ wtX l
  | [] => Nat.le_refl _
  | s :: r => by have := wtX_length r; simp only [wtX, List.length_cons]; omega
theorem wtX_append : ∀ l m : List ByteArray, wtX (l ++ m) = wtX l + wtX m
  | [], m => by simp [wtX]
  | s :: r, m => by have := wtX_append r m; simp only [List.cons_append, wtX]; omega
theorem wtX_mem {s : ByteArray} : ∀ {l : List ByteArray}, s ∈ l → s.size + 1 ≤ wtX l
  | y :: r, h => by
    rcases List.mem_cons.1 h with rfl | h
    · simp only [wtX]; omega
    · have := wtX_mem h; simp only [wtX]; omega
section
variable {H : Type} {enc : TypeId × Value → H} {w : World} {base : Nat}
theorem bulk_wtX (D : Nat → DataW H) (f : Nat → ByteArray) : ∀ l : List Nat, (∀ i ∈ l, (f i).size + 1 ≤ Rows.uptoBulk (D i)) → wtX (l.map f) ≤ Rows.uptoBulkAll (l.map D)
  | [], _ => Nat.zero_le _
  | i :: r, h => by
    have h1 := h i (by simp)
    have h2 := bulk_wtX D f r (fun j hj => h j (by simp [hj]))
    simp only [List.map_cons, wtX, Rows.uptoBulkAll]
    omega
theorem open_txs {fuel : Nat} {v : Value} {x : DataW H × List MemPlace} (h : DataW.trod enc Tryd.prog w base (fun _ => true) true fuel 22 [v] = some x) :
    ∃ ao cap l, v = .slice ao l.length cap ∧ TxAt w ao l ∧ wtX l + 1 ≤ Rows.uptoBulk x.1 := by
  rcases open_slice1 Tryd.underlying22 (by kernel_rfl) h with ⟨hv, hx⟩ | ⟨a, len, cap, m, n, V, D, Pl, hv, hb, hl, hm, hmm, hx, hi⟩
  · injection hv with hv _
    exact ⟨none, 0, [], hv, fun j hj => (by cases hj), by rw [hx]; simp [wtX, Rows.uptoBulk]⟩
  · injection hv with hv _
    have hlm : len ≤ m := by rw [hmm]; split <;> omega
    have each : ∀ i, i < len → ∃ s : ByteArray, (∃ b off, a = ⟨b, off, none⟩ ∧ b < w.heap.size ∧ w.cell? ⟨b, off + i, none⟩ = some (.string s)) ∧ s.size + 1 ≤ Rows.uptoBulk (D i) := fun i hil => by
      obtain ⟨c0, t0⟩ := hi i (by omega)
      obtain ⟨s, e, q0, _⟩ := DataW.trod_string Tryd.underlying9 t0
      injection e with e _
      rw [e] at c0
      obtain ⟨b, off, spot⟩ := a
      have hs : spot = none := by
        obtain ⟨c00, _⟩ := hi 0 (by omega)
        simpa [Addr.add] using World.cell?_spot c00
      subst hs
      rw [Go.WideShapes.add_plain] at c0
      refine ⟨s, ⟨b, off, rfl, World.block_lt_of_cell? w _ c0, c0⟩, ?_⟩
      rw [show D i = _ from congrArg Prod.fst q0, bulk_text]
      have : s.data.toList.length = s.size := Array.length_toList
      omega
    obtain ⟨f, hf⟩ := choose_lt each
    have hat : ∀ j, j < len → ((List.range len).map f)[j]! = f j := fun j hj => by
      rw [getElem!_pos _ j (by simpa using hj)]
      simp
    refine ⟨some a, cap, (List.range len).map f, by rw [hv]; simp, fun j hj => ?_, ?_⟩
    · simp only [List.length_map, List.length_range] at hj
      obtain ⟨⟨b, off, e, h1, h2⟩, _⟩ := hf j hj
      rw [hat j hj]
      exact ⟨b, off, by rw [e], h1, h2⟩
    · have := bulk_wtX D f (List.range len) (fun i hi => (hf i (List.mem_range.1 hi)).2)
      rw [hx]
      simp only [Rows.uptoBulk]
      omega
theorem open_ints {fuel : Nat} {v : Value} {x : DataW H × List MemPlace} (h : DataW.trod enc Tryd.prog w base (fun _ => true) true fuel 23 [v] = some x) :
    ∃ ao cap l, v = .slice ao l.length cap ∧ IntsAt w ao l ∧ (∀ x ∈ l, inI x) ∧ l.length + 1 ≤ Rows.uptoBulk x.1 := by
  rcases open_slice1 Tryd.underlying23 (by kernel_rfl) h with ⟨hv, hx⟩ | ⟨a, len, cap, m, n, V, D, Pl, hv, hb, hl, hm, hmm, hx, hi⟩
  · injection hv with hv _
    exact ⟨none, 0, [], hv, fun j hj => (by cases hj), fun x hx => (by cases hx), by rw [hx]; simp [Rows.uptoBulk]⟩
  · injection hv with hv _
    have hlm : len ≤ m := by rw [hmm]; split <;> omega
    have each : ∀ i, i < len → ∃ s : Int, (∃ b off, a = ⟨b, off, none⟩ ∧ b < w.heap.size ∧ w.cell? ⟨b, off + i, none⟩ = some (.int .i64 s)) ∧ inI s := fun i hil => by
      obtain ⟨c0, t0⟩ := hi i (by omega)
      obtain ⟨s, e, q0, w0⟩ := DataW.trod_int Tryd.underlying3 t0
      injection e with e _
      rw [e] at c0
      obtain ⟨b, off, spot⟩ := a
      have hs : spot = none := by
        obtain ⟨c00, _⟩ := hi 0 (by omega)
        simpa [Addr.add] using World.cell?_spot c00
      subst hs
      rw [Go.WideShapes.add_plain] at c0
      refine ⟨s, ⟨b, off, rfl, World.block_lt_of_cell? w _ c0, c0⟩, ?_⟩
      simpa [Lit.wf, IntKind.min, IntKind.max, IntKind.signed, IntKind.bits, inI] using w0
    obtain ⟨f, hf⟩ := choose_lt each
    have hat : ∀ j, j < len → ((List.range len).map f)[j]! = f j := fun j hj => by
      rw [getElem!_pos _ j (by simpa using hj)]
      simp
    refine ⟨some a, cap, (List.range len).map f, by rw [hv]; simp, fun j hj => ?_, fun x hx => ?_, ?_⟩
    · simp only [List.length_map, List.length_range] at hj
      obtain ⟨⟨b, off, e, h1, h2⟩, _⟩ := hf j hj
      rw [hat j hj]
      exact ⟨b, off, by rw [e], h1, h2⟩
    · obtain ⟨j, hj, rfl⟩ := List.mem_map.1 hx
      exact (hf j (List.mem_range.1 hj)).2
    · have := bulk_length ((List.range len).map D)
      simp only [List.length_map, List.length_range] at this ⊢
      rw [hx]
      simp only [Rows.uptoBulk]
      omega
end
end Go.Proofs.YtanbmlikfhcpoaaDoor.Disk
