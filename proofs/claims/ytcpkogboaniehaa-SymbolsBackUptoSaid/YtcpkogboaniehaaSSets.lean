/-
  Rows of slices of one's own; lists of lists of labels as they come in, and what they weigh. Own text.
-/
import Derived.Test.YtcpkogboaniehaaSCol2
import Derived.Test.YtcpkogboaniehaaSOpen
import Derived.Test.YtcpkogboaniehaaUpto
namespace Go.Proofs.Ytcpkogboaniehaa.Sym
open Go.RowKit Go Go.Proofs.Ytcpkogboaniehaa.Base Go.Proofs.Ytcpkogboaniehaa.Lab Go.Shelf Go.Sort Go.ChangeShapes Go.WideShapes Go.ChangeAt Go.Deep Go.Proofs.Ytcpkogboaniehaa.Law

theorem own_kept {w W : World} {B k n : Nat} {t : TypeId} {v : Value} {xs : List Value} (h : w.ownsRow B t k v n xs) (hb : Below w.heap.size w W) : W.ownsRow B t k v n xs := by
  refine ⟨h.1, ?_⟩
  rcases h.2 with h0 | ⟨g, cap, cur, h1, h2, h3, h4⟩
  · exact .inl h0
  · exact .inr ⟨g, cap, cur, h1, h2, by rw [hb.block g (Array.getElem?_eq_some_iff.1 h3).1]; exact h3, h4⟩

/-- one more value behind those that are there -/
theorem row_add {ts t : TypeId} (hu : Try.prog.underlying ts = some (.slice t)) (hi : (Try.prog.info? t).map (fun i => (i.zero, i.size, i.bytes)) = some (some (.slice none 0 0), 1, 24))
    {W : World} {so : Option Addr} {n cap : Nat} {vs : List Value} (h : W.ownsRow 0 t 1 (.slice so n cap) n vs) (x : Value) (hx : x.oneCell' = true) (hl : (n + 1) * 24 ≤ 140737488355328) :
    ∃ so' cap' w', (Builtin.append_ #[ts, ts] ts #[.slice so n cap, .slice (some ⟨W.heap.size, 0, none⟩) 1 1]).run Try.prog (W.alloc (.cells #[x] t)) = .ok (.slice so' (n + 1) cap') w' ∧ w'.ownsRow 0 t 1 (.slice so' (n + 1) cap') (n + 1) (vs ++ [x])
      ∧ (W.alloc (.cells #[x] t)).grownBy w' (Value.slice so n cap).ownBlock ∧ ((Value.slice so' (n + 1) cap').ownBlock = (Value.slice so n cap).ownBlock ∨ (Value.slice so' (n + 1) cap').ownBlock = some (W.heap.size + 1)) := by
  obtain ⟨i0, hi, hz0, hz1, hz2⟩ := info_parts2 hi
  have hsrc : Src Try.prog 1 ts (.slice (some ⟨W.heap.size, 0, none⟩) 1 1) 1 [x] (W.alloc (.cells #[x] t)) := by
    refine Src.ofSlice _ hu _ 1 1 _ rfl ?_ (fun u hu => by rw [List.mem_singleton.1 hu]; exact hx)
    intro j u hu
    rw [Go.WideShapes.add_plain, Nat.zero_add]
    exact cell_new rfl (by simpa using hu)
  obtain ⟨v', w', h1, h2, h3, h4⟩ := Row.append_src (P := Try.prog) (W.alloc (.cells #[x] t)) ts ts ts t i0 _ 1 24 hu hi hz0 hz1 hz2 rfl (by decide) _ n _ (own_kept h (below_alloc _ _)) _ 1 _ hsrc (by unfold maxLen; omega) hl
  rw [World.size_alloc] at h4
  rcases h2.2 with ⟨e, h0⟩ | ⟨g, c, cur, e, h5⟩
  · omega
  · subst e
    exact ⟨_, c, w', h1, ⟨h2.1, .inr ⟨g, c, cur, rfl, h5⟩⟩, h3, h4⟩

theorem labs_grown {w w' : World} {lo : Option Addr} {l : List Lab} {ob : Option Nat} (h : LabsAt w lo l) (hg : w.grownBy w' ob) (hne : ∀ b off, lo = some ⟨b, off, none⟩ → 0 < l.length → ob ≠ some b) : LabsAt w' lo l := fun j hj => by
  obtain ⟨b, off, h1, h2, h3, h4⟩ := h j hj
  have hb := hg.block b h2 (fun e => hne b off h1 (by omega) e.symm)
  refine ⟨b, off, h1, by have := hg.size; omega, ?_, ?_⟩
  · rw [← h3]; simp only [World.cell?, hb]
  · rw [← h4]; simp only [World.cell?, hb]

/-! ### what comes in, and what it weighs -/

def wtL : List Lab → Nat
  | [] => 0
  | x :: r => x.n.size + x.v.size + 2 + wtL r
def wtS : List (List Lab) → Nat
  | [] => 0
  | l :: r => wtL l + 1 + wtS r
theorem wtL_length : ∀ l : List Lab, 2 * l.length ≤ wtL l
  | [] => Nat.le_refl _
  | x :: r => by have := wtL_length r; simp only [wtL, List.length_cons]; omega
theorem wtL_mem {x : Lab} : ∀ {l : List Lab}, x ∈ l → x.n.size + x.v.size + 2 ≤ wtL l
  | y :: r, h => by
    rcases List.mem_cons.1 h with rfl | h
    · simp only [wtL]; omega
    · have := wtL_mem h; simp only [wtL]; omega
theorem wtS_flat : ∀ s : List (List Lab), (flat s).length + s.length ≤ wtS s
  | [] => Nat.le_refl _
  | l :: r => by
    have h1 := wtS_flat r
    have h2 := wtL_length l
    have h3 := flatL_length l
    have e : (flat (l :: r)).length = (flatL l).length + (flat r).length := by unfold flat; rw [List.flatMap_cons, List.length_append]
    simp only [wtS, List.length_cons]
    omega
theorem wtS_mem {l : List Lab} : ∀ {s : List (List Lab)}, l ∈ s → wtL l + 1 ≤ wtS s
  | m :: r, h => by
    rcases List.mem_cons.1 h with rfl | h
    · simp only [wtS]; omega
    · have := wtS_mem h; simp only [wtS]; omega
/-- what the texts hold together -/
def wtT (l : List ByteArray) : Nat := (l.map ByteArray.size).sum

section
variable {H : Type} {enc : TypeId × Value → H} {w : World} {base : Nat}

theorem bulk_wtL (D : Nat → DataW H) (f : Nat → Lab) : ∀ l : List Nat, (∀ i ∈ l, (f i).n.size + (f i).v.size + 2 ≤ Rows.uptoBulk (D i)) → wtL (l.map f) ≤ Rows.uptoBulkAll (l.map D)
  | [], _ => Nat.zero_le _
  | i :: r, h => by
    have h1 := h i (by simp)
    have h2 := bulk_wtL D f r (fun j hj => h j (by simp [hj]))
    simp only [List.map_cons, wtL, Rows.uptoBulkAll]
    omega
theorem bulk_wtS (D : Nat → DataW H) (f : Nat → List Lab) : ∀ l : List Nat, (∀ i ∈ l, wtL (f i) + 1 ≤ Rows.uptoBulk (D i)) → wtS (l.map f) ≤ Rows.uptoBulkAll (l.map D)
  | [], _ => Nat.zero_le _
  | i :: r, h => by
    have h1 := h i (by simp)
    have h2 := bulk_wtS D f r (fun j hj => h j (by simp [hj]))
    simp only [List.map_cons, wtS, Rows.uptoBulkAll]
    omega

set_option maxRecDepth 100000 in
theorem open_lab_b {fuel : Nat} {cs : List Value} {x : DataW H × List MemPlace} (h : DataW.trod enc Try.prog w base (fun _ => true) true fuel 69 cs = some x) :
    ∃ y : Lab, cs = y.cells ∧ y.n.size + y.v.size + 2 ≤ Rows.uptoBulk x.1 := by
  have hu := Try.underlying69
  obtain ⟨xs, n, _, hx, hl, hxl, hf⟩ := DataW.trod_struct hu h
  rw [c_lab] at hl
  match xs, hxl, cs, hl with
  | [y0, y1], _, [v0, v1], _ =>
    have g0 := hf 0 _ rfl
    have g1 := hf 1 _ rfl
    simp [c_str] at g0 g1
    obtain ⟨s0, e0, q0, _⟩ := DataW.trod_string Try.underlying9 g0
    obtain ⟨s1, e1, q1, _⟩ := DataW.trod_string Try.underlying9 g1
    injection e0 with e0 _
    injection e1 with e1 _
    refine ⟨⟨s0, s1⟩, by simp [Lab.cells, e0, e1], ?_⟩
    rw [hx]
    simp only [List.map_cons, List.map_nil, Rows.uptoBulk, Rows.uptoBulkAll]
    rw [q0, q1]
    simp only [bulk_text]
    have z0 : s0.data.toList.length = s0.size := Array.length_toList
    have z1 : s1.data.toList.length = s1.size := Array.length_toList
    omega

theorem open_labs_b {fuel : Nat} {v : Value} {x : DataW H × List MemPlace} (h : DataW.trod enc Try.prog w base (fun _ => true) true fuel 38 [v] = some x) :
    ∃ ao cap l, v = .slice ao l.length cap ∧ l.length ≤ cap ∧ LabsAt w ao l ∧ wtL l + 1 ≤ Rows.uptoBulk x.1 := by
  rcases open_slice Try.underlying38 h with ⟨hv, hx⟩ | ⟨a, len, cap, m, n, D, Pl, hv, hb, hl, hm, hmm, hx, hi⟩
  · injection hv with hv _
    exact ⟨none, 0, [], hv, Nat.le_refl _, LabsAt.nil _ _, by rw [hx]; simp [wtL, Rows.uptoBulk]⟩
  · injection hv with hv _
    rw [c_lab] at hi
    have hlm : len ≤ m := by rw [hmm]; split <;> omega
    have each : ∀ i, i < len → ∃ o : Lab, (∃ b off, a = ⟨b, off, none⟩ ∧ b < w.heap.size ∧ ∀ q, q < 2 → w.cell? ⟨b, off + (i * 2 + q), none⟩ = o.cells[q]?) ∧ o.n.size + o.v.size + 2 ≤ Rows.uptoBulk (D i) := fun i hil => by
      obtain ⟨cs', h1, h2⟩ := hi i (by omega)
      obtain ⟨_, hlen, hcell⟩ := World.cells?_some h1
      obtain ⟨o, ho, hok⟩ := open_lab_b h2
      refine ⟨o, ?_, hok⟩
      have hc : ∀ q, q < 2 → w.cell? ((a.add (i * 2)).add q) = o.cells[q]? := fun q hq => by
        rw [hcell q hq, ho]
      obtain ⟨b, off, spot⟩ := a
      have hspot : spot = none := by
        obtain ⟨ct, h1t, _⟩ := hi 0 (by omega)
        obtain ⟨_, hlent, hcellt⟩ := World.cells?_some h1t
        have h0 := hcellt 0 (by omega)
        rw [List.getElem?_eq_getElem (by omega)] at h0
        simpa [Addr.add] using World.cell?_spot h0
      subst hspot
      have hc2 : ∀ q, q < 2 → w.cell? ⟨b, off + (i * 2 + q), none⟩ = o.cells[q]? := fun q hq => by
        have := hc q hq
        rw [Go.WideShapes.add_plain, Go.WideShapes.add_plain, Nat.add_assoc] at this
        exact this
      exact ⟨b, off, rfl, World.block_lt_of_cell? w _ ((hc2 0 (by omega)).trans (by rfl : o.cells[0]? = some (.string o.n))), hc2⟩
    obtain ⟨f, hf⟩ := choose_lt each
    have hat : ∀ j, j < len → ((List.range len).map f)[j]! = f j := fun j hj => by
      rw [getElem!_pos _ j (by simpa using hj)]
      simp
    refine ⟨some a, cap, (List.range len).map f, by rw [hv]; simp, by simp only [List.length_map, List.length_range]; omega, fun j hj => ?_, ?_⟩
    · simp only [List.length_map, List.length_range] at hj
      obtain ⟨⟨b, off, e, h1, h2⟩, _⟩ := hf j hj
      rw [hat j hj]
      have c0 := h2 0 (by omega)
      have c1 := h2 1 (by omega)
      exact ⟨b, off, by rw [e], h1, c0, by rw [Nat.add_assoc]; exact c1⟩
    · have := bulk_wtL D f (List.range len) (fun i hi => (hf i (List.mem_range.1 hi)).2)
      rw [hx]
      simp only [Rows.uptoBulk]
      omega

theorem open_sets {fuel : Nat} {v : Value} {x : DataW H × List MemPlace} (h : DataW.trod enc Try.prog w base (fun _ => true) true fuel 36 [v] = some x) :
    ∃ ao cap sets, v = .slice ao sets.length cap ∧ sets.length ≤ cap ∧ SetsAt w ao sets ∧ wtS sets + 1 ≤ Rows.uptoBulk x.1 := by
  rcases open_slice1 Try.underlying36 (by kernel_rfl) h with ⟨hv, hx⟩ | ⟨a, len, cap, m, n, V, D, Pl, hv, hb, hl, hm, hmm, hx, hi⟩
  · injection hv with hv _
    exact ⟨none, 0, [], hv, Nat.le_refl _, fun k hk => (by cases hk), by rw [hx]; simp [wtS, Rows.uptoBulk]⟩
  · injection hv with hv _
    have hlm : len ≤ m := by rw [hmm]; split <;> omega
    have each : ∀ i, i < len → ∃ l : List Lab, (∃ b off, a = ⟨b, off, none⟩ ∧ b < w.heap.size ∧ ∃ lo cl, w.cell? ⟨b, off + i, none⟩ = some (.slice lo l.length cl) ∧ l.length ≤ cl ∧ LabsAt w lo l) ∧ wtL l + 1 ≤ Rows.uptoBulk (D i) := fun i hil => by
      obtain ⟨c0, t0⟩ := hi i (by omega)
      obtain ⟨lo, cl, l, e, hcl, hL, hwt⟩ := open_labs_b t0
      rw [e] at c0
      obtain ⟨b, off, spot⟩ := a
      have hs : spot = none := by
        obtain ⟨c00, _⟩ := hi 0 (by omega)
        simpa [Addr.add] using World.cell?_spot c00
      subst hs
      rw [Go.WideShapes.add_plain] at c0
      exact ⟨l, ⟨b, off, rfl, World.block_lt_of_cell? w _ c0, lo, cl, c0, hcl, hL⟩, hwt⟩
    obtain ⟨f, hf⟩ := choose_lt each
    have hat : ∀ j, j < len → ((List.range len).map f)[j]! = f j := fun j hj => by
      rw [getElem!_pos _ j (by simpa using hj)]
      simp
    refine ⟨some a, cap, (List.range len).map f, by rw [hv]; simp, by simp only [List.length_map, List.length_range]; omega, fun j hj => ?_, ?_⟩
    · simp only [List.length_map, List.length_range] at hj
      obtain ⟨⟨b, off, e, h1, h2⟩, _⟩ := hf j hj
      rw [hat j hj]
      exact ⟨b, off, by rw [e], h1, h2⟩
    · have := bulk_wtS D f (List.range len) (fun i hi => (hf i (List.mem_range.1 hi)).2)
      rw [hx]
      simp only [Rows.uptoBulk]
      omega
end
end Go.Proofs.Ytcpkogboaniehaa.Sym
