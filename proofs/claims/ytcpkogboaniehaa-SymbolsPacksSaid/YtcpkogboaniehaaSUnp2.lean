/-
  A set out of its packed bytes: contracts of readLabel, Unpack. Own text.
-/
import Derived.Test.YtcpkogboaniehaaSUnp
namespace Go.Proofs.Ytcpkogboaniehaa.Sym
open Go.RowKit Go Go.Proofs.Ytcpkogboaniehaa.Base Go.Proofs.Ytcpkogboaniehaa.Lab Go.Shelf Go.Sort Go.Proofs.Ytcpkogboaniehaa.Enc

set_option maxRecDepth 100000 in
set_option maxHeartbeats 4000000 in
theorem readLabel_any {p : Value} {T : List ByteArray} {ao : Option Addr} {cap : Nat} (w : World) (h : TabAt w p T ao cap) (s : ByteArray) (a : Int) (hs : s.size ≤ 140737488351232) :
    Calls Try.prog 41 #[p, .string s, .int .i64 a] w fun e w' => e = .returned (.tuple #[(slX T s a).val, .int .i64 (slN T s a : Int), .int .i64 (slE T s a : Int)]) ∧ Below w.heap.size w w' := by
  have h1 := fun (W : World) (hb : Below w.heap.size w W) => readSymbol_any W (h.below hb (Nat.le_refl _)) s a hs
  have h2 := fun (W : World) (hb : Below w.heap.size w W) => readSymbol_any W (h.below hb (Nat.le_refl _)) s (syN T s a : Int) hs
  have h3 := fun (W : World) (b : Nat) (hb : b < W.heap.size) h0 h1 => make_one ⟨syS T s a, syS T s (syN T s a : Int)⟩ W b hb h0 h1
  simp only at h3
  by_cases e0 : syE T s a = 0
  · rw [e0] at h1
    by_cases f0 : syE T s (syN T s a : Int) = 0
    · rw [f0] at h2
      have k1 : slE T s a = labE ⟨syS T s a, syS T s (syN T s a : Int)⟩ := by unfold slE; rw [if_neg (fun h => h e0), if_neg (fun h => h f0)]
      by_cases g0 : labE ⟨syS T s a, syS T s (syN T s a : Int)⟩ = 0
      · have k2 : slX T s a = ⟨syS T s a, syS T s (syN T s a : Int)⟩ := by unfold slX; rw [if_pos (by rw [k1]; exact g0)]
        have k3 : slN T s a = syN T s (syN T s a : Int) := by unfold slN; rw [if_pos (by rw [k1]; exact g0)]
        rw [k1, k2, k3, g0]
        rw [g0] at h3
        clear k1 k2 k3
        unfold Lab.val
        simp only
        generalize syS T s a = A at *
        generalize syS T s (syN T s a : Int) = B at *
        generalize syN T s (syN T s a : Int) = N at *
        generalize syN T s a = M at *
        have H1 := Lib.hid h1
        have H2 := Lib.hid h2
        have H3 := Lib.hid h3
        clear h h1 h2 h3 e0 f0 g0
        go_enter Try.func41, Try.ntmps41
        go_wp2_with (first
          | (go_at_call 61; ((with_reducible refine (H1.out _ (below_alloc _ _)).mono ?_); rintro e w2 ⟨rfl, rfl⟩))
          | (go_at_call 61; ((with_reducible refine (H2.out _ (below_alloc _ _)).mono ?_); rintro e w3 ⟨rfl, rfl⟩)))
        go_wp2_with (go_at_call 62; refine (H3.out _ _ (by simp) (cell_new (by simp) rfl) (cell_new (by simp) rfl)).mono ?_; rintro e w4 ⟨v4, rfl, hb4⟩; obtain ⟨hc4, hf4⟩ := bcell hb4; have hs4 := hb4.size; rw [World.size_alloc, World.size_alloc, World.size_alloc] at hs4; have d0 : w4.cell? ⟨w.heap.size + 1, 0, none⟩ = some (.string A) := (hc4 _ _ (by simp)).trans ((World.cell?_alloc_lt _ _ _ (by simp)).trans (cell_new (by simp) rfl)); have d1 : w4.cell? ⟨w.heap.size + 1, 1, none⟩ = some (.string B) := (hc4 _ _ (by simp)).trans ((World.cell?_alloc_lt _ _ _ (by simp)).trans (cell_new (by simp) rfl)))
        have c0 : w4.cell? ⟨w.heap.size, 0, none⟩ = some (.string ⟨#[]⟩) := (hc4 _ _ (by simp; omega)).trans ((World.cell?_alloc_lt _ _ _ (by simp; omega)).trans ((World.cell?_alloc_lt _ _ _ (by simp)).trans (World.cell?_alloc_new _ _ _ _)))
        have c1 : w4.cell? ⟨w.heap.size, 1, none⟩ = some (.string ⟨#[]⟩) := (hc4 _ _ (by simp; omega)).trans ((World.cell?_alloc_lt _ _ _ (by simp; omega)).trans ((World.cell?_alloc_lt _ _ _ (by simp)).trans (World.cell?_alloc_new _ _ _ _)))
        obtain ⟨r0, r1⟩ := two_set c0 c1 (.string A) (.string B)
        exact bodyPost_ret (v := .tuple #[.agg #[.string A, .string B], .int .i64 (N : Int), .int .i64 0]) (by simp [results, Try.results41, go_sem, r0, r1]) rfl ⟨rfl, ((le_below (le_below (le_below (below_alloc _ _) (below_alloc _ _)) (below_alloc _ _)) hb4).setCell (by simp) _).setCell (by simp) _⟩
      · have k2 : slX T s a = ⟨ByteArray.empty, ByteArray.empty⟩ := by unfold slX; rw [if_neg (by rw [k1]; exact g0)]
        have k3 : slN T s a = 0 := by unfold slN; rw [if_neg (by rw [k1]; exact g0)]
        rw [k1, k2, k3]
        have g1 : ((labE ⟨syS T s a, syS T s (syN T s a : Int)⟩ : Int) != 0) = true := by rw [bne_iff_ne]; omega
        clear k1 k2 k3
        unfold Lab.val
        simp only
        generalize labE ⟨syS T s a, syS T s (syN T s a : Int)⟩ = E at *
        generalize syS T s a = A at *
        generalize syS T s (syN T s a : Int) = B at *
        generalize syN T s (syN T s a : Int) = N at *
        generalize syN T s a = M at *
        have H1 := Lib.hid h1
        have H2 := Lib.hid h2
        have H3 := Lib.hid h3
        clear h h1 h2 h3 e0 f0 g0
        go_enter Try.func41, Try.ntmps41
        go_wp2_with (first
          | (go_at_call 61; ((with_reducible refine (H1.out _ (below_alloc _ _)).mono ?_); rintro e w2 ⟨rfl, rfl⟩))
          | (go_at_call 61; ((with_reducible refine (H2.out _ (below_alloc _ _)).mono ?_); rintro e w3 ⟨rfl, rfl⟩)))
        go_wp2_with (go_at_call 62; refine (H3.out _ _ (by simp) (cell_new (by simp) rfl) (cell_new (by simp) rfl)).mono ?_; rintro e w4 ⟨v4, rfl, hb4⟩; obtain ⟨hc4, hf4⟩ := bcell hb4; have hs4 := hb4.size; rw [World.size_alloc, World.size_alloc, World.size_alloc] at hs4; have d0 : w4.cell? ⟨w.heap.size + 1, 0, none⟩ = some (.string A) := (hc4 _ _ (by simp)).trans ((World.cell?_alloc_lt _ _ _ (by simp)).trans (cell_new (by simp) rfl)); have d1 : w4.cell? ⟨w.heap.size + 1, 1, none⟩ = some (.string B) := (hc4 _ _ (by simp)).trans ((World.cell?_alloc_lt _ _ _ (by simp)).trans (cell_new (by simp) rfl)))
        have c0 : w4.cell? ⟨w.heap.size, 0, none⟩ = some (.string ⟨#[]⟩) := (hc4 _ _ (by simp; omega)).trans ((World.cell?_alloc_lt _ _ _ (by simp; omega)).trans ((World.cell?_alloc_lt _ _ _ (by simp)).trans (World.cell?_alloc_new _ _ _ _)))
        have c1 : w4.cell? ⟨w.heap.size, 1, none⟩ = some (.string ⟨#[]⟩) := (hc4 _ _ (by simp; omega)).trans ((World.cell?_alloc_lt _ _ _ (by simp; omega)).trans ((World.cell?_alloc_lt _ _ _ (by simp)).trans (World.cell?_alloc_new _ _ _ _)))
        obtain ⟨r0, r1⟩ := two_set c0 c1 (.string ⟨#[]⟩) (.string ⟨#[]⟩)
        exact bodyPost_ret (v := .tuple #[.agg #[.string ⟨#[]⟩, .string ⟨#[]⟩], .int .i64 0, .int .i64 (E : Int)]) (by simp [results, Try.results41, go_sem, r0, r1]) rfl ⟨rfl, ((le_below (le_below (le_below (below_alloc _ _) (below_alloc _ _)) (below_alloc _ _)) hb4).setCell (by simp) _).setCell (by simp) _⟩
    · have k1 : slE T s a = syE T s (syN T s a : Int) := by unfold slE; rw [if_neg (fun h => h e0), if_pos f0]
      have k2 : slX T s a = ⟨ByteArray.empty, ByteArray.empty⟩ := by unfold slX; rw [if_neg (by rw [k1]; exact f0)]
      have k3 : slN T s a = 0 := by unfold slN; rw [if_neg (by rw [k1]; exact f0)]
      rw [k1, k2, k3]
      have g1 : ((syE T s (syN T s a : Int) : Int) != 0) = true := by rw [bne_iff_ne]; omega
      clear k1 k2 k3 h3
      unfold Lab.val
      simp only
      generalize syE T s (syN T s a : Int) = E at *
      generalize syS T s (syN T s a : Int) = B at *
      generalize syN T s (syN T s a : Int) = N at *
      generalize syS T s a = A at *
      generalize syN T s a = M at *
      have H1 := Lib.hid h1
      have H2 := Lib.hid h2
      clear h h1 h2 e0 f0
      go_enter Try.func41, Try.ntmps41
      go_wp2_with (first
        | (go_at_call 61; ((with_reducible refine (H1.out _ (below_alloc _ _)).mono ?_); rintro e w2 ⟨rfl, rfl⟩))
        | (go_at_call 61; ((with_reducible refine (H2.out _ (below_alloc _ _)).mono ?_); rintro e w3 ⟨rfl, rfl⟩)))
      exact bodyPost_ret (v := .tuple #[.agg #[.string ⟨#[]⟩, .string ⟨#[]⟩], .int .i64 0, .int .i64 (E : Int)]) (by simp [results, Try.results41, go_sem]) rfl ⟨rfl, below_alloc _ _⟩
  · have k1 : slE T s a = syE T s a := by unfold slE; rw [if_pos e0]
    have k2 : slX T s a = ⟨ByteArray.empty, ByteArray.empty⟩ := by unfold slX; rw [if_neg (by rw [k1]; exact e0)]
    have k3 : slN T s a = 0 := by unfold slN; rw [if_neg (by rw [k1]; exact e0)]
    rw [k1, k2, k3]
    have g1 : ((syE T s a : Int) != 0) = true := by rw [bne_iff_ne]; omega
    clear k1 k2 k3 h2 h3
    unfold Lab.val
    simp only
    generalize syE T s a = E at *
    generalize syS T s a = A at *
    generalize syN T s a = M at *
    have H1 := Lib.hid h1
    clear h h1 e0
    go_enter Try.func41, Try.ntmps41
    go_wp2_with (go_at_call 61; ((with_reducible refine (H1.out _ (below_alloc _ _)).mono ?_); rintro e w2 ⟨rfl, rfl⟩))
    exact bodyPost_ret (v := .tuple #[.agg #[.string ⟨#[]⟩, .string ⟨#[]⟩], .int .i64 0, .int .i64 (E : Int)]) (by simp [results, Try.results41, go_sem]) rfl ⟨rfl, below_alloc _ _⟩

end Go.Proofs.Ytcpkogboaniehaa.Sym
