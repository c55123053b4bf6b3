/-
  The texts NIns, joined. Own text.
-/
import Derived.Test.YtmmlefbokplnnaaGreatDoorJ39
import Derived.Test.YtmmlefbokplnnaaGreatDoorJ02
import Derived.Test.YtmmlefbokplnnaaGreatDoorJ01
import Derived.SizedLaws
set_option linter.unusedVariables false
set_option linter.unusedSimpArgs false
namespace Go.Proofs.YtmmlefbokplnnaaGreatDoor.Disk
open Go.RowKit Go Go.Proofs.YtmmlefbokplnnaaGreatDoor.Base Go.Proofs.YtmmlefbokplnnaaGreatDoor.Map Go.ChangeShapes Go.WideShapes Go.ChangeAt Go.Deep Go.Proofs.YtmmlefbokplnnaaGreatDoor.Law

def wtX : List ByteArray → Nat
  | [] => 0
  | s :: r => s.size + 1 + wtX r
theorem wtX_append : ∀ l m : List ByteArray, wtX (l ++ m) = wtX l + wtX m
  | [], m => by simp [wtX]
  | s :: r, m => by have := wtX_append r m; simp only [List.cons_append, wtX]; omega
theorem cat_wt (l : List ByteArray) : ∀ k, k ≤ l.length → (cat (psOf l) k).length + k ≤ wtX (l.take k)
  | 0, _ => by simp [cat]
  | k + 1, h => by
    have ih := cat_wt l k (by omega)
    have e : (cat (psOf l) (k + 1)).length = (cat (psOf l) k).length + l[k]!.size := by
      show (cat (psOf l) k ++ nums (l[k]!)).length = _
      rw [List.length_append, nums_length]
    rw [List.take_succ_eq_append_getElem (by omega : k < l.length), wtX_append, e, getElem!_pos l k (by omega)]
    simp only [wtX]
    omega

section
variable {H : Type} {enc : TypeId × Value → H} {w : World} {base : Nat}

theorem bulk_mem {d : DataW H} : ∀ {l : List (DataW H)}, d ∈ l → Rows.uptoBulk d ≤ Rows.uptoBulkAll l
  | y :: r, h => by
    rcases List.mem_cons.1 h with rfl | h
    · simp only [Rows.uptoBulkAll]; omega
    · have := bulk_mem h; simp only [Rows.uptoBulkAll]; omega
theorem bulk_wtX (D : Nat → DataW H) (f : Nat → ByteArray) : ∀ l : List Nat, (∀ i ∈ l, (f i).size + 1 ≤ Rows.uptoBulk (D i)) → wtX (l.map f) ≤ Rows.uptoBulkAll (l.map D)
  | [], _ => Nat.zero_le _
  | i :: r, h => by
    have h1 := h i (by simp)
    have h2 := bulk_wtX D f r (fun j hj => h j (by simp [hj]))
    simp only [List.map_cons, wtX, Rows.uptoBulkAll]
    omega
theorem bulk_costs (D : Nat → DataW H) (f : Nat → OpD) : ∀ l : List Nat, (∀ i ∈ l, 2 + (f i).text.length ≤ Rows.uptoBulk (D i)) → costs (l.map f) ≤ Rows.uptoBulkAll (l.map D)
  | [], _ => Nat.zero_le _
  | i :: r, h => by
    have h1 := h i (by simp)
    have h2 := bulk_costs D f r (fun j hj => h j (by simp [hj]))
    simp only [List.map_cons, costs, Rows.uptoBulkAll]
    omega

theorem open_txs {fuel : Nat} {v : Value} {x : DataW H × List MemPlace} (h : DataW.trod enc Tryz.prog w base (fun _ => true) true fuel 28 [v] = some x) :
    ∃ ao cap, ∃ l : List ByteArray, v = .slice ao l.length cap ∧ PartsAt w ao l.length (psOf l) ∧ wtX l + 1 ≤ Rows.uptoBulk x.1 := by
  rcases open_slice1 Tryz.underlying28 (by kernel_rfl) h with ⟨hv, hx⟩ | ⟨a, len, cap, m, n, V, D, Pl, hv, hb, hl, hm, hmm, hx, hi⟩
  · injection hv with hv _
    exact ⟨none, 0, [], hv, fun j hj => (by cases hj), by rw [hx]; simp [wtX, Rows.uptoBulk]⟩
  · injection hv with hv _
    have hlm : len ≤ m := by rw [hmm]; split <;> omega
    have each : ∀ i, i < len → ∃ s : ByteArray, (∃ b off, a = ⟨b, off, none⟩ ∧ b < w.heap.size ∧ w.cell? ⟨b, off + i, none⟩ = some (.string s)) ∧ s.size + 1 ≤ Rows.uptoBulk (D i) := fun i hil => by
      obtain ⟨c0, t0⟩ := hi i (by omega)
      obtain ⟨s, e, q0, _⟩ := DataW.trod_string Tryz.underlying9 t0
      injection e with e _
      rw [e] at c0
      obtain ⟨b, off, spot⟩ := a
      have hs : spot = none := by
        obtain ⟨c00, _⟩ := hi 0 (by omega)
        simpa [Addr.add] using World.cell?_spot c00
      subst hs
      rw [Go.WideShapes.add_plain] at c0
      refine ⟨s, ⟨b, off, rfl, World.block_lt_of_cell? w _ c0, c0⟩, ?_⟩
      rw [show D i = _ from congrArg Prod.fst q0, bulk_text]
      have : s.data.toList.length = s.size := Array.length_toList
      omega
    obtain ⟨f, hf⟩ := choose_lt each
    have hat : ∀ j, j < len → ((List.range len).map f)[j]! = f j := fun j hj => by
      rw [getElem!_pos _ j (by simpa using hj)]
      simp
    refine ⟨some a, cap, (List.range len).map f, by rw [hv]; simp, fun j hj => ?_, ?_⟩
    · simp only [List.length_map, List.length_range] at hj
      obtain ⟨⟨b, off, e, h1, h2⟩, _⟩ := hf j hj
      show ∃ b off, _ ∧ _ ∧ w.cell? ⟨b, off + j, none⟩ = some (.string (((List.range len).map f)[j]!))
      rw [hat j hj]
      exact ⟨b, off, by rw [e], h1, h2⟩
    · have := bulk_wtX D f (List.range len) (fun i hi => (hf i (List.mem_range.1 hi)).2)
      rw [hx]
      simp only [Rows.uptoBulk]
      omega

theorem int_of_wf {i : Int} (w0 : Lit.wf (.int .i64 i) = true) : inI i := by
  simpa [Lit.wf, IntKind.min, IntKind.max, IntKind.signed, IntKind.bits, inI] using w0

theorem open_ints {fuel : Nat} {v : Value} {x : DataW H × List MemPlace} (h : DataW.trod enc Tryz.prog w base (fun _ => true) true fuel 29 [v] = some x) :
    ∃ ao cap, ∃ l : List Int, v = .slice ao l.length cap ∧ IntsAt w ao l ∧ (∀ x ∈ l, inI x) ∧ l.length + 1 ≤ Rows.uptoBulk x.1 := by
  rcases open_slice1 Tryz.underlying29 (by kernel_rfl) h with ⟨hv, hx⟩ | ⟨a, len, cap, m, n, V, D, Pl, hv, hb, hl, hm, hmm, hx, hi⟩
  · injection hv with hv _
    exact ⟨none, 0, [], hv, fun j hj => (by cases hj), fun x hx => (by cases hx), by rw [hx]; simp [Rows.uptoBulk]⟩
  · injection hv with hv _
    have hlm : len ≤ m := by rw [hmm]; split <;> omega
    have each : ∀ i, i < len → ∃ s : Int, (∃ b off, a = ⟨b, off, none⟩ ∧ b < w.heap.size ∧ w.cell? ⟨b, off + i, none⟩ = some (.int .i64 s)) ∧ inI s := fun i hil => by
      obtain ⟨c0, t0⟩ := hi i (by omega)
      obtain ⟨s, e, q0, w0⟩ := DataW.trod_int Tryz.underlying3 t0
      injection e with e _
      rw [e] at c0
      obtain ⟨b, off, spot⟩ := a
      have hs : spot = none := by
        obtain ⟨c00, _⟩ := hi 0 (by omega)
        simpa [Addr.add] using World.cell?_spot c00
      subst hs
      rw [Go.WideShapes.add_plain] at c0
      exact ⟨s, ⟨b, off, rfl, World.block_lt_of_cell? w _ c0, c0⟩, int_of_wf w0⟩
    obtain ⟨f, hf⟩ := choose_lt each
    refine ⟨some a, cap, (List.range len).map f, by rw [hv]; simp, fun j hj => ?_, fun x hx => ?_, ?_⟩
    · have hj2 : j < len := by simpa using hj
      obtain ⟨⟨b, off, e, h1, h2⟩, _⟩ := hf j hj2
      exact ⟨b, off, by rw [e], h1, by simpa using h2⟩
    · obtain ⟨j, hj, rfl⟩ := List.mem_map.1 hx
      exact (hf j (List.mem_range.1 hj)).2
    · have := bulk_length ((List.range len).map D)
      simp only [List.length_map, List.length_range] at this ⊢
      rw [hx]
      simp only [Rows.uptoBulk]
      omega

theorem c_op : Tryz.prog.cellsOf 31 = 8 := by kernel_rfl
theorem c_int : Tryz.prog.cellsOf 3 = 1 := by kernel_rfl
theorem c_str : Tryz.prog.cellsOf 9 = 1 := by kernel_rfl
theorem c_bool : Tryz.prog.cellsOf 4 = 1 := by kernel_rfl
theorem c_sstr : Tryz.prog.cellsOf 28 = 1 := by kernel_rfl
theorem c_sint : Tryz.prog.cellsOf 29 = 1 := by kernel_rfl

instance : Inhabited OpD := ⟨⟨0, ByteArray.empty, ByteArray.empty, 0, 0, [], none, 0, [], none, 0, false⟩⟩

set_option maxRecDepth 100000 in
theorem open_op {fuel : Nat} {cs : List Value} {x : DataW H × List MemPlace} (h : DataW.trod enc Tryz.prog w base (fun _ => true) true fuel 31 cs = some x) (hz : Rows.uptoBulk x.1 ≤ 1048576) :
    ∃ o : OpD, cs = o.cells.toList ∧ o.At w.heap.size w ∧ 2 + o.text.length ≤ Rows.uptoBulk x.1 := by
  have hu := Tryz.underlying31
  obtain ⟨xs, n, _, hx, hl, hxl, hf⟩ := DataW.trod_struct hu h
  rw [c_op] at hl
  match xs, hxl, cs, hl with
  | [y0, y1, y2, y3, y4, y5, y6, y7], _, [v0, v1, v2, v3, v4, v5, v6, v7], _ =>
    have g0 := hf 0 _ rfl
    have g1 := hf 1 _ rfl
    have g2 := hf 2 _ rfl
    have g3 := hf 3 _ rfl
    have g4 := hf 4 _ rfl
    have g5 := hf 5 _ rfl
    have g6 := hf 6 _ rfl
    have g7 := hf 7 _ rfl
    simp [c_int, c_str, c_bool, c_sstr, c_sint] at g0 g1 g2 g3 g4 g5 g6 g7
    obtain ⟨i0, e0, _, _⟩ := DataW.trod_int Tryz.underlying3 g0
    obtain ⟨s1, e1, q1, _⟩ := DataW.trod_string Tryz.underlying9 g1
    obtain ⟨s2, e2, q2, _⟩ := DataW.trod_string Tryz.underlying9 g2
    obtain ⟨i3, e3, _, w3⟩ := DataW.trod_int Tryz.underlying3 g3
    obtain ⟨i4, e4, _, w4⟩ := DataW.trod_int Tryz.underlying3 g4
    obtain ⟨b7, e7, _⟩ := DataW.trod_bool Tryz.underlying4 g7
    obtain ⟨pa, pc, l, e5, t5, k5⟩ := open_txs g5
    obtain ⟨da, dc, dl, e6, t6, i6, k6⟩ := open_ints g6
    have hbk : Rows.uptoBulk x.1 = Rows.uptoBulk y0.1 + (Rows.uptoBulk y1.1 + (Rows.uptoBulk y2.1 + (Rows.uptoBulk y3.1 + (Rows.uptoBulk y4.1 + (Rows.uptoBulk y5.1 + (Rows.uptoBulk y6.1 + (Rows.uptoBulk y7.1 + 0))))))) + 1 := by
      rw [hx]
      simp only [List.map_cons, List.map_nil, Rows.uptoBulk, Rows.uptoBulkAll]
    have z1 : Rows.uptoBulk y1.1 = s1.data.toList.length + 1 := by rw [show y1.1 = _ from congrArg Prod.fst q1, bulk_text]
    have z2 : Rows.uptoBulk y2.1 = s2.data.toList.length + 1 := by rw [show y2.1 = _ from congrArg Prod.fst q2, bulk_text]
    have y1s : s1.data.toList.length = s1.size := Array.length_toList
    have y2s : s2.data.toList.length = s2.size := Array.length_toList
    have p3 := bulk_pos y3.1
    have p4 := bulk_pos y4.1
    have hct := cat_wt l l.length (Nat.le_refl _)
    rw [List.take_length] at hct
    injection e0 with e0 _
    injection e1 with e1 _
    injection e2 with e2 _
    injection e3 with e3 _
    injection e4 with e4 _
    injection e7 with e7 _
    refine ⟨⟨i0, s1, s2, i3, i4, l, pa, pc, dl, da, dc, b7⟩, by simp [OpD.cells, e0, e1, e2, e3, e4, e5, e6, e7], ⟨by show s1.size < _; omega, by show s2.size < _; omega, int_of_wf w3, int_of_wf w4, t5, fun h0 b off e => ?_, by show l.length ≤ _; omega, by show (cat (psOf l) l.length).length ≤ _; omega, t6, fun h0 b off e => ?_, by show dl.length ≤ _; omega, i6⟩, by show 2 + (cat (psOf l) l.length).length ≤ _; omega⟩
    · obtain ⟨b', off', h1, h2, _⟩ := t5 0 h0
      rw [show pa = _ from e] at h1
      injection h1 with h1
      injection h1 with h1
      omega
    · obtain ⟨b', off', h1, h2, _⟩ := t6 0 h0
      rw [show da = _ from e] at h1
      injection h1 with h1
      injection h1 with h1
      omega

theorem open_ops {fuel : Nat} {v : Value} {x : DataW H × List MemPlace} (h : DataW.trod enc Tryz.prog w base (fun _ => true) true fuel 22 [v] = some x) (hz : Rows.uptoBulk x.1 ≤ 1048576) :
    ∃ ao cap, ∃ ops : List OpD, v = .slice ao ops.length cap ∧ OpsD w ao ops ∧ costs ops + 1 ≤ Rows.uptoBulk x.1 := by
  rcases open_slice Tryz.underlying22 h with ⟨hv, hx⟩ | ⟨a, len, cap, m, n, D, Pl, hv, hb, hl, hm, hmm, hx, hi⟩
  · injection hv with hv _
    exact ⟨none, 0, [], hv, fun j hj => (by cases hj), by rw [hx]; simp [costs, Rows.uptoBulk]⟩
  · injection hv with hv _
    rw [c_op] at hi
    have hlm : len ≤ m := by rw [hmm]; split <;> omega
    have hbx : Rows.uptoBulk x.1 = Rows.uptoBulkAll ((List.range len).map D) + Rows.uptoBulkAll ((List.range (m - len)).map fun j => D (len + j)) + 1 := by rw [hx]; simp only [Rows.uptoBulk]
    have each : ∀ i, i < len → ∃ o : OpD, (∃ b off, a = ⟨b, off, none⟩ ∧ b < w.heap.size ∧ ∀ q, q < 8 → w.cell? ⟨b, off + (i * 8 + q), none⟩ = o.cells[q]?) ∧ o.At w.heap.size w ∧ 2 + o.text.length ≤ Rows.uptoBulk (D i) := fun i hil => by
      obtain ⟨cs', h1, h2⟩ := hi i (by omega)
      obtain ⟨_, hlen, hcell⟩ := World.cells?_some h1
      have hbm : Rows.uptoBulk (D i) ≤ Rows.uptoBulkAll ((List.range len).map D) := bulk_mem (List.mem_map.2 ⟨i, List.mem_range.2 hil, rfl⟩)
      obtain ⟨o, ho, hok, hco⟩ := open_op h2 (by show Rows.uptoBulk (D i) ≤ _; omega)
      refine ⟨o, ?_, hok, hco⟩
      have hc : ∀ q, q < 8 → w.cell? ((a.add (i * 8)).add q) = o.cells[q]? := fun q hq => by
        rw [hcell q hq, ho]; simp
      obtain ⟨b, off, spot⟩ := a
      have hspot : spot = none := by
        obtain ⟨ct, h1t, _⟩ := hi 0 (by omega)
        obtain ⟨_, hlent, hcellt⟩ := World.cells?_some h1t
        have h0 := hcellt 0 (by omega)
        rw [List.getElem?_eq_getElem (by omega)] at h0
        simpa [Addr.add] using World.cell?_spot h0
      subst hspot
      have hc2 : ∀ q, q < 8 → w.cell? ⟨b, off + (i * 8 + q), none⟩ = o.cells[q]? := fun q hq => by
        have := hc q hq
        rw [Go.WideShapes.add_plain, Go.WideShapes.add_plain, Nat.add_assoc] at this
        exact this
      exact ⟨b, off, rfl, World.block_lt_of_cell? w _ ((hc2 0 (by omega)).trans (by rfl : o.cells[0]? = some (.int .i64 o.k))), hc2⟩
    obtain ⟨f, hf⟩ := choose_lt each
    refine ⟨some a, cap, (List.range len).map f, by rw [hv]; simp, fun j hj => ?_, ?_⟩
    · have hj2 : j < len := by simpa using hj
      obtain ⟨⟨b, off, e, h1, h2⟩, h3, _⟩ := hf j hj2
      have eg : ((List.range len).map f)[j]'hj = f j := by simp
      rw [eg]
      exact ⟨b, off, by rw [e], h1, h2, h3⟩
    · have := bulk_costs D f (List.range len) (fun i hi => (hf i (List.mem_range.1 hi)).2.2)
      omega
end
end Go.Proofs.YtmmlefbokplnnaaGreatDoor.Disk
