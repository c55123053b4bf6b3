/-
  A list of labels as it comes in. Own text.
-/
import Derived.Test.YtcpkogboaniehaaLAlike
import Derived.Test.YtcpkogboaniehaaLRefV
import Derived.Test.YtcpkogboaniehaaLaw
import Derived.SizedLaws
namespace Go.Proofs.Ytcpkogboaniehaa.Lab
open Go.RowKit Go Go.Proofs.Ytcpkogboaniehaa.Base Go.ChangeShapes Go.WideShapes Go.ChangeAt Go.Deep

/-- a list that came in: where it lies, and that nothing of it is too long -/
structure InLabs (w : World) (v : Value) (ao : Option Addr) (cap : Nat) (l : List Lab) : Prop where
  val : v = .slice ao l.length cap
  labs : LabsAt w ao l
  cap : l.length ≤ cap
  long : l.length * 32 ≤ 140737488351232
  sizes : ∀ x ∈ l, x.n.size ≤ 140737488351232 ∧ x.v.size ≤ 140737488351232

section
variable {H : Type} {enc : TypeId × Value → H} {w : World} {base : Nat}

theorem wAll {t : TypeId} {d : DataW H} {l : List (DataW H)} (hd : d ∈ l) : ∀ q ∈ d.weights Try.prog t, q ∈ DataW.weightsAll Try.prog t l := by
  induction l with
  | nil => cases hd
  | cons a r ih =>
    intro q hq
    rw [DataW.weightsAll]
    rcases List.mem_cons.1 hd with rfl | hd
    · exact List.mem_append_left _ hq
    · exact List.mem_append_right _ (ih hd q hq)

theorem c_lab : Try.prog.cellsOf 69 = 2 := by kernel_rfl
theorem c_str : Try.prog.cellsOf 9 = 1 := by kernel_rfl

set_option maxRecDepth 100000 in
theorem open_lab {fuel : Nat} {cs : List Value} {x : DataW H × List MemPlace} (h : DataW.trod enc Try.prog w base (fun _ => true) true fuel 69 cs = some x) (hz : ∀ q ∈ x.1.weights Try.prog 69, q ≤ reachBytes) :
    ∃ y : Lab, cs = y.cells ∧ y.n.size ≤ reachBytes ∧ y.v.size ≤ reachBytes := by
  have hu := Try.underlying69
  obtain ⟨xs, n, _, hx, hl, hxl, hf⟩ := DataW.trod_struct hu h
  rw [c_lab] at hl
  match xs, hxl, cs, hl with
  | [y0, y1], _, [v0, v1], _ =>
    have g0 := hf 0 _ rfl
    have g1 := hf 1 _ rfl
    simp [c_str] at g0 g1
    obtain ⟨s0, e0, q0, _⟩ := DataW.trod_string Try.underlying9 g0
    obtain ⟨s1, e1, q1, _⟩ := DataW.trod_string Try.underlying9 g1
    have hw : ∀ q, q ∈ y0.1.weights Try.prog 9 ∨ q ∈ y1.1.weights Try.prog 9 → q ≤ reachBytes := fun q hq => hz q (by
      rw [hx]
      simp only [List.map_cons, List.map_nil, DataW.weights, hu, DataW.weightsEach, List.mem_append]
      rcases hq with hq | hq
      · exact .inl hq
      · exact .inr (.inl hq))
    have w0 := hw s0.size (.inl (by rw [q0]; simp [DataW.weights]))
    have w1 := hw s1.size (.inr (by rw [q1]; simp [DataW.weights]))
    injection e0 with e0 _
    injection e1 with e1 _
    exact ⟨⟨s0, s1⟩, by simp [Lab.cells, e0, e1], w0, w1⟩

theorem open_labs {fuel : Nat} {v : Value} {x : DataW H × List MemPlace} (h : DataW.trod enc Try.prog w base (fun _ => true) true fuel 38 [v] = some x) (hz : ∀ q ∈ x.1.weights Try.prog 38, q ≤ reachBytes) :
    ∃ ao cap l, InLabs w v ao cap l := by
  have hr : reachBytes = 140737488351232 := rfl
  rcases open_slice Try.underlying38 h with ⟨hv, hx⟩ | ⟨a, len, cap, m, n, D, Pl, hv, hb, hl, hm, hmm, hx, hi⟩
  · injection hv with hv _
    exact ⟨none, 0, [], hv, LabsAt.nil _ _, Nat.le_refl _, by simp, fun y hy => by cases hy⟩
  · injection hv with hv _
    rw [c_lab] at hi
    have hlm : len ≤ m := by rw [hmm]; split <;> omega
    have each : ∀ i, i < len → ∃ o : Lab, (∃ b off, a = ⟨b, off, none⟩ ∧ b < w.heap.size ∧ ∀ q, q < 2 → w.cell? ⟨b, off + (i * 2 + q), none⟩ = o.cells[q]?) ∧ o.n.size ≤ reachBytes ∧ o.v.size ≤ reachBytes := fun i hil => by
      obtain ⟨cs', h1, h2⟩ := hi i (by omega)
      obtain ⟨_, hlen, hcell⟩ := World.cells?_some h1
      obtain ⟨o, ho, hok⟩ := open_lab h2 (fun q hq => hz q (by
        rw [hx]
        simp only [DataW.weights, Try.underlying38, List.mem_cons, List.mem_append]
        exact .inr (.inl (wAll (List.mem_map.2 ⟨i, List.mem_range.2 hil, rfl⟩) q hq))))
      refine ⟨o, ?_, hok⟩
      have hc : ∀ q, q < 2 → w.cell? ((a.add (i * 2)).add q) = o.cells[q]? := fun q hq => by
        rw [hcell q hq, ho]
      obtain ⟨b, off, spot⟩ := a
      have hspot : spot = none := by
        obtain ⟨ct, h1t, _⟩ := hi 0 (by omega)
        obtain ⟨_, hlent, hcellt⟩ := World.cells?_some h1t
        have h0 := hcellt 0 (by omega)
        rw [List.getElem?_eq_getElem (by omega)] at h0
        simpa [Addr.add] using World.cell?_spot h0
      subst hspot
      have hc2 : ∀ q, q < 2 → w.cell? ⟨b, off + (i * 2 + q), none⟩ = o.cells[q]? := fun q hq => by
        have := hc q hq
        rw [Go.WideShapes.add_plain, Go.WideShapes.add_plain, Nat.add_assoc] at this
        exact this
      exact ⟨b, off, rfl, World.block_lt_of_cell? w _ ((hc2 0 (by omega)).trans (by rfl : o.cells[0]? = some (.string o.n))), hc2⟩
    obtain ⟨f, hf⟩ := choose_lt each
    have hat : ∀ j, j < len → ((List.range len).map f)[j]! = f j := fun j hj => by
      rw [getElem!_pos _ j (by simpa using hj)]
      simp
    have hb32 : Try.prog.bytesOf 69 = 32 := by kernel_rfl
    have hwt := hz ((len + (m - len)) * Try.prog.bytesOf 69) (by rw [hx]; simp [DataW.weights, Try.underlying38])
    rw [hb32, hr] at hwt
    refine ⟨some a, cap, (List.range len).map f, by rw [hv]; simp, fun j hj => ?_, by simp only [List.length_map, List.length_range]; omega, by simp only [List.length_map, List.length_range]; omega, fun y hy => ?_⟩
    · simp only [List.length_map, List.length_range] at hj
      obtain ⟨⟨b, off, e, h1, h2⟩, _⟩ := hf j hj
      rw [hat j hj]
      have c0 := h2 0 (by omega)
      have c1 := h2 1 (by omega)
      exact ⟨b, off, by rw [e], h1, c0, by rw [Nat.add_assoc]; exact c1⟩
    · obtain ⟨i, hi2, rfl⟩ := List.mem_map.1 hy
      have := (hf i (List.mem_range.1 hi2)).2
      rw [hr] at this
      exact this
end

theorem InLabs.sz {w : World} {v : Value} {ao : Option Addr} {cap : Nat} {l : List Lab} (h : InLabs w v ao cap l) : ∀ j, j < l.length → l[j]!.n.size < 4611686018427387904 ∧ l[j]!.v.size < 4611686018427387904 := fun j hj => by
  have := h.sizes l[j]! (by rw [getElem!_pos l j hj]; exact List.getElem_mem hj)
  omega
end Go.Proofs.Ytcpkogboaniehaa.Lab
