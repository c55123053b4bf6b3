/-
  A list of texts as it comes in. Own text.
-/
import Derived.Test.YtcpkogboaniehaaSMem
import Derived.Test.YtcpkogboaniehaaLOpen
import Derived.Test.YtcpkogboaniehaaLaw
import Derived.SizedLaws
namespace Go.Proofs.Ytcpkogboaniehaa.Sym
open Go.RowKit Go Go.Proofs.Ytcpkogboaniehaa.Base Go.Proofs.Ytcpkogboaniehaa.Lab Go.ChangeShapes Go.WideShapes Go.ChangeAt Go.Deep

/-- a list of texts that came in -/
structure InTexts (w : World) (v : Value) (ao : Option Addr) (cap : Nat) (l : List ByteArray) : Prop where
  val : v = .slice ao l.length cap
  texts : TextsAt w ao l
  cap : l.length ≤ cap
  long : l.length * 16 ≤ 140737488351232
  sizes : ∀ k, k < l.length → l[k]!.size ≤ 140737488351232

section
variable {H : Type} {enc : TypeId × Value → H} {w : World} {base : Nat}

theorem open_texts {fuel : Nat} {v : Value} {x : DataW H × List MemPlace} (h : DataW.trod enc Try.prog w base (fun _ => true) true fuel 22 [v] = some x) (hz : ∀ q ∈ x.1.weights Try.prog 22, q ≤ reachBytes) :
    ∃ ao cap l, InTexts w v ao cap l := by
  have hr : reachBytes = 140737488351232 := rfl
  rcases open_slice1 Try.underlying22 (by kernel_rfl) h with ⟨hv, hx⟩ | ⟨a, len, cap, m, n, V, D, Pl, hv, hb, hl, hm, hmm, hx, hi⟩
  · injection hv with hv _
    exact ⟨none, 0, [], hv, TextsAt.nil _ _, Nat.le_refl _, by simp, fun k hk => by cases hk⟩
  · injection hv with hv _
    have hlm : len ≤ m := by rw [hmm]; split <;> omega
    have each : ∀ i, i < len → ∃ s : ByteArray, (∃ b off, a = ⟨b, off, none⟩ ∧ b < w.heap.size ∧ w.cell? ⟨b, off + i, none⟩ = some (.string s)) ∧ s.size ≤ reachBytes := fun i hil => by
      obtain ⟨c0, t0⟩ := hi i (by omega)
      obtain ⟨s, e, q0, _⟩ := DataW.trod_string Try.underlying9 t0
      have hs0 := hz s.size (by
        rw [hx]
        simp only [DataW.weights, Try.underlying22, List.mem_cons, List.mem_append]
        exact .inr (.inl (wAll (List.mem_map.2 ⟨i, List.mem_range.2 hil, rfl⟩) _ (by rw [show D i = _ from congrArg Prod.fst q0]; simp [DataW.weights]))))
      injection e with e _
      rw [e] at c0
      obtain ⟨b, off, spot⟩ := a
      have hs : spot = none := by
        obtain ⟨c00, _⟩ := hi 0 (by omega)
        simpa [Addr.add] using World.cell?_spot c00
      subst hs
      rw [Go.WideShapes.add_plain] at c0
      exact ⟨s, ⟨b, off, rfl, World.block_lt_of_cell? w _ c0, c0⟩, hs0⟩
    obtain ⟨f, hf⟩ := choose_lt each
    have hat : ∀ j, j < len → ((List.range len).map f)[j]! = f j := fun j hj => by
      rw [getElem!_pos _ j (by simpa using hj)]
      simp
    have hb16 : Try.prog.bytesOf 9 = 16 := by kernel_rfl
    have hwt := hz ((len + (m - len)) * 16) (by rw [hx]; simp [DataW.weights, Try.underlying22, hb16])
    rw [hr] at hwt
    refine ⟨some a, cap, (List.range len).map f, by rw [hv]; simp, fun j hj => ?_, by simp only [List.length_map, List.length_range]; omega, by simp only [List.length_map, List.length_range]; omega, fun j hj => ?_⟩
    · simp only [List.length_map, List.length_range] at hj
      obtain ⟨⟨b, off, e, h1, h2⟩, _⟩ := hf j hj
      rw [hat j hj]
      exact ⟨b, off, by rw [e], h1, h2⟩
    · simp only [List.length_map, List.length_range] at hj
      have := (hf j hj).2
      rw [hat j hj]
      rw [hr] at this
      exact this
end
end Go.Proofs.Ytcpkogboaniehaa.Sym
