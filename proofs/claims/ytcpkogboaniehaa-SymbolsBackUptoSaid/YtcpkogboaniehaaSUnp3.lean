/-
A set out of its packed bytes: contracts of readLabel, Unpack. Own text.
  A set out of its packed bytes: contract of Unpack. Own text.
-/
import Derived.Test.YtcpkogboaniehaaSUnp
namespace Go.Proofs.Ytcpkogboaniehaa.Sym
open Go.RowKit Go Go.Proofs.Ytcpkogboaniehaa.Base Go.Proofs.Ytcpkogboaniehaa.Lab Go.Shelf Go.Sort Go.Proofs.Ytcpkogboaniehaa.Enc

set_option maxRecDepth 100000 in
set_option maxHeartbeats 4000000 in
theorem readLabel_any {p : Value} {T : List ByteArray} {ao : Option Addr} {cap : Nat} (w : World) (h : TabAt w p T ao cap) (s : ByteArray) (a : Int) (hs : s.size ≤ 140737488351232) :
    Calls Try.prog 41 #[p, .string s, .int .i64 a] w fun e w' => e = .returned (.tuple #[(slX T s a).val, .int .i64 (slN T s a : Int), .int .i64 (slE T s a : Int)]) ∧ Below w.heap.size w w' := by
  have h1 := fun (W : World) (hb : Below w.heap.size w W) => readSymbol_any W (h.below hb (Nat.le_refl _)) s a hs
  have h2 := fun (W : World) (hb : Below w.heap.size w W) => readSymbol_any W (h.below hb (Nat.le_refl _)) s (syN T s a : Int) hs
  have h3 := fun (W : World) (b : Nat) (hb : b < W.heap.size) h0 h1 => make_one ⟨syS T s a, syS T s (syN T s a : Int)⟩ W b hb h0 h1
  simp only at h3
  by_cases e0 : syE T s a = 0
  · rw [e0] at h1
    by_cases f0 : syE T s (syN T s a : Int) = 0
    · rw [f0] at h2
      have k1 : slE T s a = labE ⟨syS T s a, syS T s (syN T s a : Int)⟩ := by unfold slE; rw [if_neg (fun h => h e0), if_neg (fun h => h f0)]
      by_cases g0 : labE ⟨syS T s a, syS T s (syN T s a : Int)⟩ = 0
      · have k2 : slX T s a = ⟨syS T s a, syS T s (syN T s a : Int)⟩ := by unfold slX; rw [if_pos (by rw [k1]; exact g0)]
        have k3 : slN T s a = syN T s (syN T s a : Int) := by unfold slN; rw [if_pos (by rw [k1]; exact g0)]
        rw [k1, k2, k3, g0]
        rw [g0] at h3
        clear k1 k2 k3
        unfold Lab.val
        simp only
        generalize syS T s a = A at *
        generalize syS T s (syN T s a : Int) = B at *
        generalize syN T s (syN T s a : Int) = N at *
        generalize syN T s a = M at *
        have H1 := Lib.hid h1
        have H2 := Lib.hid h2
        have H3 := Lib.hid h3
        clear h h1 h2 h3 e0 f0 g0
        go_enter Try.func41, Try.ntmps41
        go_wp2_with (first
          | (go_at_call 61; ((with_reducible refine (H1.out _ (below_alloc _ _)).mono ?_); rintro e w2 ⟨rfl, rfl⟩))
          | (go_at_call 61; ((with_reducible refine (H2.out _ (below_alloc _ _)).mono ?_); rintro e w3 ⟨rfl, rfl⟩)))
        go_wp2_with (go_at_call 62; refine (H3.out _ _ (by simp) (cell_new (by simp) rfl) (cell_new (by simp) rfl)).mono ?_; rintro e w4 ⟨v4, rfl, hb4⟩; obtain ⟨hc4, hf4⟩ := bcell hb4; have hs4 := hb4.size; rw [World.size_alloc, World.size_alloc, World.size_alloc] at hs4; have d0 : w4.cell? ⟨w.heap.size + 1, 0, none⟩ = some (.string A) := (hc4 _ _ (by simp)).trans ((World.cell?_alloc_lt _ _ _ (by simp)).trans (cell_new (by simp) rfl)); have d1 : w4.cell? ⟨w.heap.size + 1, 1, none⟩ = some (.string B) := (hc4 _ _ (by simp)).trans ((World.cell?_alloc_lt _ _ _ (by simp)).trans (cell_new (by simp) rfl)))
        have c0 : w4.cell? ⟨w.heap.size, 0, none⟩ = some (.string ⟨#[]⟩) := (hc4 _ _ (by simp; omega)).trans ((World.cell?_alloc_lt _ _ _ (by simp; omega)).trans ((World.cell?_alloc_lt _ _ _ (by simp)).trans (World.cell?_alloc_new _ _ _ _)))
        have c1 : w4.cell? ⟨w.heap.size, 1, none⟩ = some (.string ⟨#[]⟩) := (hc4 _ _ (by simp; omega)).trans ((World.cell?_alloc_lt _ _ _ (by simp; omega)).trans ((World.cell?_alloc_lt _ _ _ (by simp)).trans (World.cell?_alloc_new _ _ _ _)))
        obtain ⟨r0, r1⟩ := two_set c0 c1 (.string A) (.string B)
        exact bodyPost_ret (v := .tuple #[.agg #[.string A, .string B], .int .i64 (N : Int), .int .i64 0]) (by simp [results, Try.results41, go_sem, r0, r1]) rfl ⟨rfl, ((le_below (le_below (le_below (below_alloc _ _) (below_alloc _ _)) (below_alloc _ _)) hb4).setCell (by simp) _).setCell (by simp) _⟩
      · have k2 : slX T s a = ⟨ByteArray.empty, ByteArray.empty⟩ := by unfold slX; rw [if_neg (by rw [k1]; exact g0)]
        have k3 : slN T s a = 0 := by unfold slN; rw [if_neg (by rw [k1]; exact g0)]
        rw [k1, k2, k3]
        have g1 : ((labE ⟨syS T s a, syS T s (syN T s a : Int)⟩ : Int) != 0) = true := by rw [bne_iff_ne]; omega
        clear k1 k2 k3
        unfold Lab.val
        simp only
        generalize labE ⟨syS T s a, syS T s (syN T s a : Int)⟩ = E at *
        generalize syS T s a = A at *
        generalize syS T s (syN T s a : Int) = B at *
        generalize syN T s (syN T s a : Int) = N at *
        generalize syN T s a = M at *
        have H1 := Lib.hid h1
        have H2 := Lib.hid h2
        have H3 := Lib.hid h3
        clear h h1 h2 h3 e0 f0 g0
        go_enter Try.func41, Try.ntmps41
        go_wp2_with (first
          | (go_at_call 61; ((with_reducible refine (H1.out _ (below_alloc _ _)).mono ?_); rintro e w2 ⟨rfl, rfl⟩))
          | (go_at_call 61; ((with_reducible refine (H2.out _ (below_alloc _ _)).mono ?_); rintro e w3 ⟨rfl, rfl⟩)))
        go_wp2_with (go_at_call 62; refine (H3.out _ _ (by simp) (cell_new (by simp) rfl) (cell_new (by simp) rfl)).mono ?_; rintro e w4 ⟨v4, rfl, hb4⟩; obtain ⟨hc4, hf4⟩ := bcell hb4; have hs4 := hb4.size; rw [World.size_alloc, World.size_alloc, World.size_alloc] at hs4; have d0 : w4.cell? ⟨w.heap.size + 1, 0, none⟩ = some (.string A) := (hc4 _ _ (by simp)).trans ((World.cell?_alloc_lt _ _ _ (by simp)).trans (cell_new (by simp) rfl)); have d1 : w4.cell? ⟨w.heap.size + 1, 1, none⟩ = some (.string B) := (hc4 _ _ (by simp)).trans ((World.cell?_alloc_lt _ _ _ (by simp)).trans (cell_new (by simp) rfl)))
        have c0 : w4.cell? ⟨w.heap.size, 0, none⟩ = some (.string ⟨#[]⟩) := (hc4 _ _ (by simp; omega)).trans ((World.cell?_alloc_lt _ _ _ (by simp; omega)).trans ((World.cell?_alloc_lt _ _ _ (by simp)).trans (World.cell?_alloc_new _ _ _ _)))
        have c1 : w4.cell? ⟨w.heap.size, 1, none⟩ = some (.string ⟨#[]⟩) := (hc4 _ _ (by simp; omega)).trans ((World.cell?_alloc_lt _ _ _ (by simp; omega)).trans ((World.cell?_alloc_lt _ _ _ (by simp)).trans (World.cell?_alloc_new _ _ _ _)))
        obtain ⟨r0, r1⟩ := two_set c0 c1 (.string ⟨#[]⟩) (.string ⟨#[]⟩)
        exact bodyPost_ret (v := .tuple #[.agg #[.string ⟨#[]⟩, .string ⟨#[]⟩], .int .i64 0, .int .i64 (E : Int)]) (by simp [results, Try.results41, go_sem, r0, r1]) rfl ⟨rfl, ((le_below (le_below (le_below (below_alloc _ _) (below_alloc _ _)) (below_alloc _ _)) hb4).setCell (by simp) _).setCell (by simp) _⟩
    · have k1 : slE T s a = syE T s (syN T s a : Int) := by unfold slE; rw [if_neg (fun h => h e0), if_pos f0]
      have k2 : slX T s a = ⟨ByteArray.empty, ByteArray.empty⟩ := by unfold slX; rw [if_neg (by rw [k1]; exact f0)]
      have k3 : slN T s a = 0 := by unfold slN; rw [if_neg (by rw [k1]; exact f0)]
      rw [k1, k2, k3]
      have g1 : ((syE T s (syN T s a : Int) : Int) != 0) = true := by rw [bne_iff_ne]; omega
      clear k1 k2 k3 h3
      unfold Lab.val
      simp only
      generalize syE T s (syN T s a : Int) = E at *
      generalize syS T s (syN T s a : Int) = B at *
      generalize syN T s (syN T s a : Int) = N at *
      generalize syS T s a = A at *
      generalize syN T s a = M at *
      have H1 := Lib.hid h1
      have H2 := Lib.hid h2
      clear h h1 h2 e0 f0
      go_enter Try.func41, Try.ntmps41
      go_wp2_with (first
        | (go_at_call 61; ((with_reducible refine (H1.out _ (below_alloc _ _)).mono ?_); rintro e w2 ⟨rfl, rfl⟩))
        | (go_at_call 61; ((with_reducible refine (H2.out _ (below_alloc _ _)).mono ?_); rintro e w3 ⟨rfl, rfl⟩)))
      exact bodyPost_ret (v := .tuple #[.agg #[.string ⟨#[]⟩, .string ⟨#[]⟩], .int .i64 0, .int .i64 (E : Int)]) (by simp [results, Try.results41, go_sem]) rfl ⟨rfl, below_alloc _ _⟩
  · have k1 : slE T s a = syE T s a := by unfold slE; rw [if_pos e0]
    have k2 : slX T s a = ⟨ByteArray.empty, ByteArray.empty⟩ := by unfold slX; rw [if_neg (by rw [k1]; exact e0)]
    have k3 : slN T s a = 0 := by unfold slN; rw [if_neg (by rw [k1]; exact e0)]
    rw [k1, k2, k3]
    have g1 : ((syE T s a : Int) != 0) = true := by rw [bne_iff_ne]; omega
    clear k1 k2 k3 h2 h3
    unfold Lab.val
    simp only
    generalize syE T s a = E at *
    generalize syS T s a = A at *
    generalize syN T s a = M at *
    have H1 := Lib.hid h1
    clear h h1 e0
    go_enter Try.func41, Try.ntmps41
    go_wp2_with (go_at_call 61; ((with_reducible refine (H1.out _ (below_alloc _ _)).mono ?_); rintro e w2 ⟨rfl, rfl⟩))
    exact bodyPost_ret (v := .tuple #[.agg #[.string ⟨#[]⟩, .string ⟨#[]⟩], .int .i64 0, .int .i64 (E : Int)]) (by simp [results, Try.results41, go_sem]) rfl ⟨rfl, below_alloc _ _⟩

end Go.Proofs.Ytcpkogboaniehaa.Sym
namespace Go.Proofs.Ytcpkogboaniehaa.Sym
open Go.RowKit Go Go.Proofs.Ytcpkogboaniehaa.Base Go.Proofs.Ytcpkogboaniehaa.Lab Go.Shelf Go.Sort Go.Proofs.Ytcpkogboaniehaa.Enc

set_option maxRecDepth 100000 in
set_option maxHeartbeats 4000000 in
theorem unpack_any {p : Value} {T : List ByteArray} {tao : Option Addr} {tcap : Nat} (w : World) (h : TabAt w p T tao tcap) (s : ByteArray) (a : Int) (hs : s.size ≤ 140737488351232) :
    Calls Try.prog 21 #[p, .string s, .int .i64 a] w fun e w' => ∃ v, e = .returned (.tuple #[v, .int .i64 ((upS T s a).2.1 : Int), .int .i64 ((upS T s a).2.2 : Int)]) ∧ LabRow 69 w w' v (upS T s a).1 := by
  have h1 := fun W => readCount_any s a hs W
  have h2 := fun (b : Nat) (W : World) (hb : Below w.heap.size w W) => readLabel_any W (h.below hb (Nat.le_refl _)) s (b : Int) hs
  have hle := rcV_le s a
  by_cases e0 : rcE s a = 0
  · obtain ⟨D, hD⟩ : ∃ D, upS T s a = D := ⟨_, rfl⟩
    have hD2 : upAux T s (rcV s a) (rcN s a) ByteArray.empty [] = D := by rw [← hD]; unfold upS; rw [if_neg (by omega)]
    rw [hD]
    rw [e0] at h1
    generalize rcV s a = V at *
    generalize rcN s a = N at *
    have H1 := Lib.hid h1
    have H2 := Lib.hid h2
    have HD := Lib.hid hD2
    clear h h1 h2 hD hD2 e0
    obtain ⟨L0, N0, E0⟩ := D
    go_enter Try.func21, Try.ntmps21
    obtain ⟨wm, hrun, hR0⟩ := LabRow.made w V (by omega)
    have HR0 := Lib.hid hR0
    clear hR0
    go_wp2_with (go_at_call 40; ((with_reducible refine (H1.out _).mono ?_); rintro e w2 ⟨rfl, rfl⟩))
    clear hrun
    go_loopg [10, 12, 13, 28] V (fun r q8 q10 q11 q26 wr => ∃ (k b : Nat) (P : ByteArray) (S : List Lab) (ao : Option Addr) (n cap : Nat), Hid (k + r = V) ∧ k ≤ V ∧ q8 = .int .i64 (b : Int) ∧ q10 = .slice ao n cap ∧ q11 = .string P ∧ q26 = .int .u64 (k : Int) ∧ Hid (n = k) ∧ Hid (S.length = n) ∧ Hid (upAux T s r b P S = (L0, N0, E0)) ∧ Hid (LabRow 69 w wr q10 S))
    case atStart => exact ⟨0, N, ByteArray.empty, [], _, 0, V, Nat.zero_add _, Nat.zero_le _, rfl, rfl, rfl, rfl, rfl, rfl, HD.out, HR0.out⟩
    case round =>
      obtain ⟨k, b, P, S, ao, n, cap, hE, hk, rfl, rfl, rfl, rfl, HN, HSL, HDA, HS⟩ := hrel
      by_cases hlt : k < V
      · obtain ⟨t, rfl⟩ : ∃ t, gk = t + 1 := ⟨gk - 1, by have := hE.out; omega⟩
        have hda := HDA.out
        have hb := fun (W : World) (hW : Below wr.heap.size wr W) => H2.out b W (HS.out.below.trans (hW.mono HS.out.below.size))
        by_cases f0 : slE T s (b : Int) = 0
        · rw [f0] at hb
          by_cases f1 : cmpS P (slX T s (b : Int)).n < 0
          · rw [up_go f0 f1] at hda
            obtain ⟨X, hX⟩ : ∃ X, slX T s (b : Int) = X := ⟨_, rfl⟩
            rw [hX] at hda hb f1
            generalize slN T s (b : Int) = M at hda hb
            obtain ⟨xn, xv⟩ := X
            simp only [Lab.val] at hda hb f1
            have g1 : Op.bytesLess xn.toList P.toList = false := by rw [less_cmp]; have := cmpS_ord.swap P xn; exact decide_eq_false (by omega)
            have g2 : (xn.toList == P.toList) = false := str_ne (fun e => by rw [e, cmpS_ord.refl] at f1; omega)
            have hap : ∀ W, Below wr.heap.size wr W → ∃ ao' cap' w9, (Builtin.append_ #[38, 38] 38 #[.slice ao n cap, .slice (some ⟨W.heap.size, 0, none⟩) 1 1]).run Try.prog (W.alloc (.cells #[.string xn, .string xv] 69)) = .ok (.slice ao' (n + 1) cap') w9 ∧ LabRow 69 w w9 (.slice ao' (n + 1) cap') (S ++ [⟨xn, xv⟩]) ∧ (∀ o x, W.cell? ⟨wr.heap.size, o, none⟩ = some x → w9.cell? ⟨wr.heap.size, o, none⟩ = some x) := fun W hW => by
              have hsrc : Src Try.prog 2 38 (.slice (some ⟨W.heap.size, 0, none⟩) 1 1) 1 (cellsL [⟨xn, xv⟩]) (W.alloc (.cells #[.string xn, .string xv] 69)) := by
                refine Src.ofSlice _ Try.underlying38 _ 1 1 _ rfl ?_ (cellsL_one _)
                intro j u hu
                rw [Go.WideShapes.add_plain, Nat.zero_add]
                exact cell_new rfl (by simpa [cellsL, Lab.cells] using hu)
              obtain ⟨ao', cap', w9, h1, h2, h3⟩ := LabRow.append2 Try.underlying38 lab_info HS.out (le_below hW (below_alloc _ _)) _ [⟨xn, xv⟩] hsrc (by rw [HSL.out, HN.out]; simp only [List.length_cons, List.length_nil]; omega)
              rw [HSL.out] at h1 h2
              refine ⟨ao', cap', w9, h1, h2, fun o x hx => ?_⟩
              have hlt9 : wr.heap.size < W.heap.size := World.block_lt_of_cell? W _ hx
              have hne : some wr.heap.size ≠ (Value.slice ao n cap).ownBlock := fun e => by
                rcases HS.out.row.2 with ⟨e2, _⟩ | ⟨g, cap3, cur, e2, _, h4, _⟩
                · rw [e2] at e; cases e
                · rw [e2] at e
                  simp only [Value.ownBlock, Option.some.injEq] at e
                  have := (Array.getElem?_eq_some_iff.1 h4).1
                  omega
              have hbl := h3.block wr.heap.size (by rw [World.size_alloc]; omega) hne
              rw [heap_alloc_old W _ hlt9] at hbl
              rw [← hx]
              simp only [World.cell?, hbl]
            have HAP := Lib.hid hap
            have HDA2 := Lib.hid hda
            have HB := Lib.hid hb
            clear hap hda hb f0 f1 hX
            go_wp2_with (first
              | (go_at_call 41; ((with_reducible refine (HB.out _ (below_alloc _ _)).mono ?_); rintro e w2 ⟨rfl, hb2⟩; obtain ⟨hc2, hf2⟩ := bcell hb2; have hz2 : wr.heap.size < w2.heap.size := (by have := hb2.size; simp at this; omega); have hW : Below wr.heap.size wr ((w2.setCell ⟨wr.heap.size, 0, none⟩ (.string xn)).setCell ⟨wr.heap.size, 1, none⟩ (.string xv)) := ((le_below (below_alloc _ _) hb2).setCell (Nat.le_refl _) _).setCell (Nat.le_refl _) _; obtain ⟨ao', cap', w9, hrun, hR9, hk9⟩ := HAP.out _ hW; rw [World.size_setCell, World.size_setCell] at hrun; have HRun := Lib.hid hrun; have HR9 := Lib.hid hR9; have HK9 := Lib.hid hk9; clear hrun hR9 hk9 hW; have c0 : w2.cell? ⟨wr.heap.size, 0, none⟩ = some (.string ⟨#[]⟩) := (hc2 _ _ (by simp)).trans (World.cell?_alloc_new _ _ _ _); have c1 : w2.cell? ⟨wr.heap.size, 1, none⟩ = some (.string ⟨#[]⟩) := (hc2 _ _ (by simp)).trans (World.cell?_alloc_new _ _ _ _); have k0 := HK9.out 0 _ (two_set c0 c1 (.string xn) (.string xv)).1))
              | (at_builtin; refine Row.append_by rfl (.tmp 45) (.tmp 47) _ rfl _ _ rfl rfl HRun.out ?_))
            go_roundg t
            case measure => omega
            case rel => exact ⟨k + 1, M, xn, S ++ [Lab.mk xn xv], ao', n + 1, cap', by show _ = _; have := hE.out; omega, by omega, rfl, rfl, rfl, by go_num, by show _ = _; have := HN.out; omega, by show _ = _; rw [List.length_append, HSL.out]; rfl, HDA2.out, HR9.out⟩
          · rw [up_tw f0 f1] at hda
            injection hda with d1 d2
            injection d2 with d2 d3
            subst d1 d2 d3
            obtain ⟨X, hX⟩ : ∃ X, slX T s (b : Int) = X := ⟨_, rfl⟩
            rw [hX] at hb f1
            generalize slN T s (b : Int) = M at hb
            obtain ⟨xn, xv⟩ := X
            simp only [Lab.val] at hb f1
            have g0 : (Op.bytesLess xn.toList P.toList || xn.toList == P.toList) = true := by
              rcases cmp3 P xn with ⟨c1, _, _, _, _⟩ | ⟨_, _, _, _, c5⟩ | ⟨_, _, c3, _, _⟩
              · exact absurd (by omega) f1
              · rw [str_eq c5.symm]; simp
              · rw [c3]; rfl
            have HB := Lib.hid hb
            have HSB := Lib.hid HS.out.below
            clear hb f0 f1 hX
            rcases Bool.or_eq_true_iff.1 g0 with g1 | g1
            all_goals
              clear g0
              go_wp2_with (go_at_call 41; ((with_reducible refine (HB.out _ (below_alloc _ _)).mono ?_); rintro e w2 ⟨rfl, hb2⟩; obtain ⟨hc2, hf2⟩ := bcell hb2; have hz2 : wr.heap.size < w2.heap.size := (by have := hb2.size; simp at this; omega)))
              all_goals
                go_ret3
                exact ⟨_, rfl, ((le_below HSB.out (le_below (below_alloc _ _) hb2)).setCell HSB.out.size _).setCell HSB.out.size _, World.ownsRow_nil _ _ _ _, fun k hk => by cases hk⟩
        · rw [up_lb f0] at hda
          injection hda with d1 d2
          injection d2 with d2 d3
          subst d1 d2
          have g1 : ((slE T s (b : Int) : Int) != 0) = true := by rw [bne_iff_ne]; omega
          rw [d3] at g1 hb
          generalize slN T s (b : Int) = M at hb
          generalize slX T s (b : Int) = X at hb
          obtain ⟨xn, xv⟩ := X
          simp only [Lab.val] at hb
          have HB := Lib.hid hb
          have HSB := Lib.hid HS.out.below
          clear hb f0 d3
          go_wp2_with (go_at_call 41; ((with_reducible refine (HB.out _ (below_alloc _ _)).mono ?_); rintro e w2 ⟨rfl, hb2⟩; obtain ⟨hc2, hf2⟩ := bcell hb2; have hz2 : wr.heap.size < w2.heap.size := (by have := hb2.size; simp at this; omega)))
          go_ret3
          exact ⟨_, rfl, ((le_below HSB.out (le_below (below_alloc _ _) hb2)).setCell HSB.out.size _).setCell HSB.out.size _, World.ownsRow_nil _ _ _ _, fun k hk => by cases hk⟩
      · obtain rfl : k = V := by omega
        obtain rfl : gk = 0 := by have := hE.out; omega
        have hda := HDA.out
        rw [upAux] at hda
        injection hda with d1 d2
        injection d2 with d2 d3
        subst d1 d2 d3
        go_wp2_with fail
        go_ret3
        exact ⟨_, rfl, HS.out⟩
  · have hD : upS T s a = ([], 0, rcE s a) := by unfold upS; rw [if_pos e0]
    rw [hD]
    have g1 : ((rcE s a : Int) != 0) = true := by rw [bne_iff_ne]; omega
    simp only
    generalize rcE s a = E at *
    generalize rcV s a = V at *
    generalize rcN s a = N at *
    have H1 := Lib.hid h1
    clear h h1 h2 hD e0
    go_enter Try.func21, Try.ntmps21
    go_wp2_with (go_at_call 40; ((with_reducible refine (H1.out _).mono ?_); rintro e w2 ⟨rfl, rfl⟩))
    go_ret3
    exact ⟨_, rfl, LabRow.nil _ _⟩
end Go.Proofs.Ytcpkogboaniehaa.Sym
