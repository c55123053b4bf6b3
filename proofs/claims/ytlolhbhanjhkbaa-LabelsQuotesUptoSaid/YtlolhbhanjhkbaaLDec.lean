/-
  A set out of its bytes: contracts of readCount, readLabel, Decode. Own text.
-/
import Derived.Test.YtlolhbhanjhkbaaLEnc
namespace Go.Proofs.Ytlolhbhanjhkbaa.Lab
open Go.RowKit Go Go.Proofs.Ytlolhbhanjhkbaa.Base Go.Shelf Go.Sort Go.Proofs.Ytlolhbhanjhkbaa.Enc

/-- a label that is read: its error, the label, where it ends -/
def lbE (s : ByteArray) (a : Int) : Nat := if txE s a ≠ 0 then txE s a else if txE s (txN s a : Int) ≠ 0 then txE s (txN s a : Int) else labE ⟨txS s a, txS s (txN s a : Int)⟩
def lbX (s : ByteArray) (a : Int) : Lab := if lbE s a = 0 then ⟨txS s a, txS s (txN s a : Int)⟩ else ⟨ByteArray.empty, ByteArray.empty⟩
def lbN (s : ByteArray) (a : Int) : Nat := if lbE s a = 0 then txN s (txN s a : Int) else 0
/-- the number that is read: its error, the number, where it ends -/
def rcE (s : ByteArray) (a : Int) : Nat := if rdE s a ≠ 0 then rdE s a else cntE (rdV s a)
def rcV (s : ByteArray) (a : Int) : Nat := if rcE s a = 0 then rdV s a else 0
def rcN (s : ByteArray) (a : Int) : Nat := if rcE s a = 0 then rdN s a else 0
/-- c labels that are read behind acc, the last of which has the name p -/
def decAux (s : ByteArray) : Nat → Nat → ByteArray → List Lab → List Lab × Nat × Nat
  | 0, a, _, acc => (acc, a, 0)
  | c + 1, a, p, acc => if lbE s (a : Int) ≠ 0 then ([], 0, lbE s (a : Int)) else if ¬ cmpS p (lbX s (a : Int)).n < 0 then ([], 0, 42) else decAux s c (lbN s (a : Int)) (lbX s (a : Int)).n (acc ++ [lbX s (a : Int)])
def decS (s : ByteArray) (a : Int) : List Lab × Nat × Nat := if rcE s a ≠ 0 then ([], 0, rcE s a) else decAux s (rcV s a) (rcN s a) ByteArray.empty []

theorem txS_size (s : ByteArray) (a : Int) : (txS s a).size ≤ s.size := by
  unfold txS
  split
  · rw [ByteArray.size_extract]; omega
  · show 0 ≤ _; omega
theorem readCount_any (s : ByteArray) (a : Int) (hs : s.size ≤ 140737488351232) (hv : rdV s a < 18446744073709551616) (w : World) :
    Calls Try.prog 49 #[.string s, .int .i64 a] w fun e w' => e = .returned (.tuple #[.int .u64 (rcV s a : Int), .int .i64 (rcN s a : Int), .int .i64 (rcE s a : Int)]) ∧ w = w' := by
  have HC := Lib.hid (readUint_any s a hs)
  have hcc := fun W => checkCount_any (rdV s a) hv W
  by_cases h0 : rdE s a = 0
  · rw [h0] at HC
    by_cases h1 : cntE (rdV s a) = 0
    · have e1 : rcE s a = 0 := by unfold rcE; rw [if_neg (fun h => h h0)]; exact h1
      have e2 : rcV s a = rdV s a := by unfold rcV; rw [if_pos e1]
      have e3 : rcN s a = rdN s a := by unfold rcN; rw [if_pos e1]
      rw [e1, e2, e3]
      rw [h1] at hcc
      have HCC := Lib.hid hcc
      generalize rdV s a = V at *
      generalize rdN s a = N at *
      clear hcc h0 h1 e1 e2 e3
      go_enter Try.func49, Try.ntmps49
      go_wp2_with (first
        | (go_at_call 67; refine (HC.out _).mono ?_; rintro e w' ⟨rfl, rfl⟩)
        | (go_at_call 59; refine (HCC.out _).mono ?_; rintro e w' ⟨rfl, rfl⟩))
      go_ret3
      exact ⟨rfl, rfl⟩
    · have e1 : rcE s a = cntE (rdV s a) := by unfold rcE; rw [if_neg (fun h => h h0)]
      have e2 : rcV s a = 0 := by unfold rcV; rw [if_neg (by rw [e1]; exact h1)]
      have e3 : rcN s a = 0 := by unfold rcN; rw [if_neg (by rw [e1]; exact h1)]
      rw [e1, e2, e3]
      have g1 : ((cntE (rdV s a) : Int) != 0) = true := by rw [bne_iff_ne]; omega
      clear e1 e2 e3
      generalize cntE (rdV s a) = E at *
      have HCC := Lib.hid hcc
      generalize rdV s a = V at *
      generalize rdN s a = N at *
      clear hcc h0 h1
      go_enter Try.func49, Try.ntmps49
      go_wp2_with (first
        | (go_at_call 67; refine (HC.out _).mono ?_; rintro e w' ⟨rfl, rfl⟩)
        | (go_at_call 59; refine (HCC.out _).mono ?_; rintro e w' ⟨rfl, rfl⟩))
      go_ret3
      exact ⟨rfl, rfl⟩
  · have e1 : rcE s a = rdE s a := by unfold rcE; rw [if_pos h0]
    have e2 : rcV s a = 0 := by unfold rcV; rw [if_neg (by rw [e1]; exact h0)]
    have e3 : rcN s a = 0 := by unfold rcN; rw [if_neg (by rw [e1]; exact h0)]
    rw [e1, e2, e3]
    have g1 : ((rdE s a : Int) != 0) = true := by rw [bne_iff_ne]; omega
    clear e1 e2 e3
    generalize rdE s a = E at *
    generalize rdV s a = V at *
    generalize rdN s a = N at *
    clear hcc h0
    go_enter Try.func49, Try.ntmps49
    go_wp2_with (go_at_call 67; refine (HC.out _).mono ?_; rintro e w' ⟨rfl, rfl⟩)
    go_ret3
    exact ⟨rfl, rfl⟩

theorem two_set {w : World} {b : Nat} {x y : Value} (h0 : w.cell? ⟨b, 0, none⟩ = some x) (h1 : w.cell? ⟨b, 1, none⟩ = some y) (u v : Value) :
    ((w.setCell ⟨b, 0, none⟩ u).setCell ⟨b, 1, none⟩ v).cell? ⟨b, 0, none⟩ = some u ∧ ((w.setCell ⟨b, 0, none⟩ u).setCell ⟨b, 1, none⟩ v).cell? ⟨b, 1, none⟩ = some v := by
  refine ⟨?_, ?_⟩
  · rw [World.cell?_setCell_other _ _ _ _ (by simp)]
    exact World.cell?_setCell_same _ _ _ h0
  · exact World.cell?_setCell_same _ _ _ ((World.cell?_setCell_other _ _ _ _ (by simp)).trans h1)
theorem bcell {W w1 : World} (hb : Below W.heap.size W w1) : (∀ b o, b < W.heap.size → w1.cell? ⟨b, o, none⟩ = W.cell? ⟨b, o, none⟩) ∧ (∀ b o, b < W.heap.size → w1.frozen? ⟨b, o, none⟩ = W.frozen? ⟨b, o, none⟩) :=
  ⟨fun b o h => hb.cell (p := ⟨b, o, none⟩) h, fun b o h => hb.frozen (p := ⟨b, o, none⟩) h⟩

set_option maxRecDepth 100000 in
set_option maxHeartbeats 2000000 in
theorem readLabel_any (s : ByteArray) (a : Int) (hs : s.size ≤ 140737488351232) (w : World) :
    Calls Try.prog 50 #[.string s, .int .i64 a] w fun e w' => e = .returned (.tuple #[(lbX s a).val, .int .i64 (lbN s a : Int), .int .i64 (lbE s a : Int)]) ∧ Below w.heap.size w w' := by
  have h1 := fun W => readText_any s a hs W
  have h2 := fun W => readText_any s (txN s a : Int) hs W
  have h3 := fun W => checkLabel_any ⟨txS s a, txS s (txN s a : Int)⟩ W
  by_cases e0 : txE s a = 0
  · rw [e0] at h1
    by_cases f0 : txE s (txN s a : Int) = 0
    · rw [f0] at h2
      have k1 : lbE s a = labE ⟨txS s a, txS s (txN s a : Int)⟩ := by unfold lbE; rw [if_neg (fun h => h e0), if_neg (fun h => h f0)]
      by_cases g0 : labE ⟨txS s a, txS s (txN s a : Int)⟩ = 0
      · have k2 : lbX s a = ⟨txS s a, txS s (txN s a : Int)⟩ := by unfold lbX; rw [if_pos (by rw [k1]; exact g0)]
        have k3 : lbN s a = txN s (txN s a : Int) := by unfold lbN; rw [if_pos (by rw [k1]; exact g0)]
        rw [k1, k2, k3, g0]
        rw [g0] at h3
        clear k1 k2 k3
        unfold Lab.val at h3 ⊢
        simp only at h3 ⊢
        generalize txS s a = A at *
        generalize txS s (txN s a : Int) = B at *
        generalize txN s (txN s a : Int) = N at *
        generalize txN s a = M at *
        have H1 := Lib.hid h1
        have H2 := Lib.hid h2
        have H3 := Lib.hid h3
        clear h1 h2 h3 e0 f0 g0
        go_enter Try.func50, Try.ntmps50
        go_wp2_with (first
          | (go_at_call 68; ((with_reducible refine (H1.out _).mono ?_); rintro e w2 ⟨rfl, rfl⟩))
          | (go_at_call 68; ((with_reducible refine (H2.out _).mono ?_); rintro e w3 ⟨rfl, rfl⟩))
          | (go_at_call 60; ((with_reducible refine (H3.out _).mono ?_); rintro e w4 ⟨rfl, hb4⟩; obtain ⟨hc4, hf4⟩ := bcell hb4; have hz4 : w.heap.size + 1 < w4.heap.size := by (have := hb4.size; simp at this; omega))))
        have c0 : w4.cell? ⟨w.heap.size, 0, none⟩ = some (.string ⟨#[]⟩) := by rw [hc4 _ _ (by simp; omega)]; exact (World.cell?_alloc_lt _ _ _ (by simp)).trans (World.cell?_alloc_new _ _ _ _)
        have c1 : w4.cell? ⟨w.heap.size, 1, none⟩ = some (.string ⟨#[]⟩) := by rw [hc4 _ _ (by simp; omega)]; exact (World.cell?_alloc_lt _ _ _ (by simp)).trans (World.cell?_alloc_new _ _ _ _)
        obtain ⟨r0, r1⟩ := two_set c0 c1 (.string A) (.string B)
        exact bodyPost_ret (v := .tuple #[.agg #[.string A, .string B], .int .i64 (N : Int), .int .i64 0]) (by simp [results, Try.results50, go_sem, r0, r1]) rfl ⟨rfl, ((le_below (le_below (below_alloc _ _) (below_alloc _ _)) hb4).setCell (by simp) _).setCell (by simp) _⟩
      · have k2 : lbX s a = ⟨ByteArray.empty, ByteArray.empty⟩ := by unfold lbX; rw [if_neg (by rw [k1]; exact g0)]
        have k3 : lbN s a = 0 := by unfold lbN; rw [if_neg (by rw [k1]; exact g0)]
        rw [k1, k2, k3]
        have g1 : ((labE ⟨txS s a, txS s (txN s a : Int)⟩ : Int) != 0) = true := by rw [bne_iff_ne]; omega
        clear k1 k2 k3
        unfold Lab.val at h3 ⊢
        simp only at h3 ⊢
        generalize labE ⟨txS s a, txS s (txN s a : Int)⟩ = E at *
        generalize txS s a = A at *
        generalize txS s (txN s a : Int) = B at *
        generalize txN s (txN s a : Int) = N at *
        generalize txN s a = M at *
        have H1 := Lib.hid h1
        have H2 := Lib.hid h2
        have H3 := Lib.hid h3
        clear h1 h2 h3 e0 f0 g0
        go_enter Try.func50, Try.ntmps50
        go_wp2_with (first
          | (go_at_call 68; ((with_reducible refine (H1.out _).mono ?_); rintro e w2 ⟨rfl, rfl⟩))
          | (go_at_call 68; ((with_reducible refine (H2.out _).mono ?_); rintro e w3 ⟨rfl, rfl⟩))
          | (go_at_call 60; ((with_reducible refine (H3.out _).mono ?_); rintro e w4 ⟨rfl, hb4⟩; obtain ⟨hc4, hf4⟩ := bcell hb4; have hz4 : w.heap.size + 1 < w4.heap.size := by (have := hb4.size; simp at this; omega))))
        have c0 : w4.cell? ⟨w.heap.size, 0, none⟩ = some (.string ⟨#[]⟩) := by rw [hc4 _ _ (by simp; omega)]; exact (World.cell?_alloc_lt _ _ _ (by simp)).trans (World.cell?_alloc_new _ _ _ _)
        have c1 : w4.cell? ⟨w.heap.size, 1, none⟩ = some (.string ⟨#[]⟩) := by rw [hc4 _ _ (by simp; omega)]; exact (World.cell?_alloc_lt _ _ _ (by simp)).trans (World.cell?_alloc_new _ _ _ _)
        obtain ⟨r0, r1⟩ := two_set c0 c1 (.string ⟨#[]⟩) (.string ⟨#[]⟩)
        exact bodyPost_ret (v := .tuple #[.agg #[.string ⟨#[]⟩, .string ⟨#[]⟩], .int .i64 0, .int .i64 (E : Int)]) (by simp [results, Try.results50, go_sem, r0, r1]) rfl ⟨rfl, ((le_below (le_below (below_alloc _ _) (below_alloc _ _)) hb4).setCell (by simp) _).setCell (by simp) _⟩
    · have k1 : lbE s a = txE s (txN s a : Int) := by unfold lbE; rw [if_neg (fun h => h e0), if_pos f0]
      have k2 : lbX s a = ⟨ByteArray.empty, ByteArray.empty⟩ := by unfold lbX; rw [if_neg (by rw [k1]; exact f0)]
      have k3 : lbN s a = 0 := by unfold lbN; rw [if_neg (by rw [k1]; exact f0)]
      rw [k1, k2, k3]
      have g1 : ((txE s (txN s a : Int) : Int) != 0) = true := by rw [bne_iff_ne]; omega
      clear k1 k2 k3
      unfold Lab.val
      simp only
      generalize txE s (txN s a : Int) = E at *
      generalize txS s a = A at *
      generalize txS s (txN s a : Int) = B at *
      generalize txN s (txN s a : Int) = N at *
      generalize txN s a = M at *
      have H1 := Lib.hid h1
      have H2 := Lib.hid h2
      have H3 := Lib.hid h3
      clear h1 h2 h3 e0 f0
      go_enter Try.func50, Try.ntmps50
      go_wp2_with (first
          | (go_at_call 68; ((with_reducible refine (H1.out _).mono ?_); rintro e w2 ⟨rfl, rfl⟩))
          | (go_at_call 68; ((with_reducible refine (H2.out _).mono ?_); rintro e w3 ⟨rfl, rfl⟩))
          | (go_at_call 60; ((with_reducible refine (H3.out _).mono ?_); rintro e w4 ⟨rfl, hb4⟩; obtain ⟨hc4, hf4⟩ := bcell hb4; have hz4 : w.heap.size + 1 < w4.heap.size := by (have := hb4.size; simp at this; omega))))
      exact bodyPost_ret (v := .tuple #[.agg #[.string ⟨#[]⟩, .string ⟨#[]⟩], .int .i64 0, .int .i64 (E : Int)]) (by simp [results, Try.results50, go_sem]) rfl ⟨rfl, below_alloc _ _⟩
  · have k1 : lbE s a = txE s a := by unfold lbE; rw [if_pos e0]
    have k2 : lbX s a = ⟨ByteArray.empty, ByteArray.empty⟩ := by unfold lbX; rw [if_neg (by rw [k1]; exact e0)]
    have k3 : lbN s a = 0 := by unfold lbN; rw [if_neg (by rw [k1]; exact e0)]
    rw [k1, k2, k3]
    have g1 : ((txE s a : Int) != 0) = true := by rw [bne_iff_ne]; omega
    clear k1 k2 k3
    unfold Lab.val
    simp only
    generalize txE s a = E at *
    generalize txS s a = A at *
    generalize txN s a = M at *
    have H1 := Lib.hid h1
    have H2 := Lib.hid h2
    have H3 := Lib.hid h3
    clear h1 h2 h3 e0
    go_enter Try.func50, Try.ntmps50
    go_wp2_with (first
          | (go_at_call 68; ((with_reducible refine (H1.out _).mono ?_); rintro e w2 ⟨rfl, rfl⟩))
          | (go_at_call 68; ((with_reducible refine (H2.out _).mono ?_); rintro e w3 ⟨rfl, rfl⟩))
          | (go_at_call 60; ((with_reducible refine (H3.out _).mono ?_); rintro e w4 ⟨rfl, hb4⟩; obtain ⟨hc4, hf4⟩ := bcell hb4; have hz4 : w.heap.size + 1 < w4.heap.size := by (have := hb4.size; simp at this; omega))))
    exact bodyPost_ret (v := .tuple #[.agg #[.string ⟨#[]⟩, .string ⟨#[]⟩], .int .i64 0, .int .i64 (E : Int)]) (by simp [results, Try.results50, go_sem]) rfl ⟨rfl, below_alloc _ _⟩
end Go.Proofs.Ytlolhbhanjhkbaa.Lab
