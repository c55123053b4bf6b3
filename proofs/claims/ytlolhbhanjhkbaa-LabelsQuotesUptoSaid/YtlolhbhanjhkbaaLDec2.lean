/-
  A set out of its bytes: contracts of Decode, of the program and of the document's answer. Own text.
-/
import Derived.Test.YtlolhbhanjhkbaaLDec
namespace Go.Proofs.Ytlolhbhanjhkbaa.Enc
open Go.RowKit Go Go.Proofs.Ytlolhbhanjhkbaa.Base

theorem rdV_lt (s : ByteArray) (a : Int) : rdV s a < 18446744073709551616 := by
  by_cases h : a < 0 ∨ (s.size : Int) ≤ a
  · rw [rdV_err s a (by rw [rdE_out s a h]; decide)]
    decide
  · obtain ⟨b, rfl⟩ := Int.eq_ofNat_of_zero_le (show 0 ≤ a by omega)
    have hb : b < s.size := by omega
    obtain ⟨h1, h2, h3⟩ := kk_spec s b hb
    have hR := reads_of s b hb
    generalize kk s b = k at *
    generalize rdV s b = v at *
    generalize rdN s b = n at *
    generalize rdE s b = e at *
    cases hR with
    | short h => decide
    | bad _ _ => decide
    | good c1 c2 c3 c4 => exact Var.val_64 _ _ _ (by omega)

end Go.Proofs.Ytlolhbhanjhkbaa.Enc
namespace Go.Proofs.Ytlolhbhanjhkbaa.Lab
open Go.RowKit Go Go.Proofs.Ytlolhbhanjhkbaa.Base Go.Shelf Go.Sort Go.Proofs.Ytlolhbhanjhkbaa.Enc

theorem rcV_le (s : ByteArray) (a : Int) : rcV s a ≤ 8 := by
  by_cases h : rcE s a = 0
  · have e : rcV s a = rdV s a := by unfold rcV; rw [if_pos h]
    rw [e]
    by_cases h0 : rdE s a = 0
    · rw [(by unfold rcE; rw [if_neg (fun h => h h0)] : rcE s a = cntE (rdV s a))] at h
      by_cases h8 : 8 < rdV s a
      · rw [(by unfold cntE; rw [if_neg (by omega), if_pos h8] : cntE (rdV s a) = 44)] at h
        cases h
      · omega
    · rw [rdV_err s a h0]; omega
  · rw [(by unfold rcV; rw [if_neg h] : rcV s a = 0)]; omega

theorem LabRow.made (w : World) (n : Nat) (hn : n ≤ 1024) :
    ∃ w', (Instr.makeSlice 22 (.int .i64 0) (.int .u64 (n : Int))).run Try.prog w = .ok (.slice (some ⟨w.heap.size, 0, none⟩) 0 n) w' ∧ LabRow 62 w w' (.slice (some ⟨w.heap.size, 0, none⟩) 0 n) [] := by
  obtain ⟨i0, hi, hz0, hz1, hz2⟩ := info_parts2 lab_info
  obtain ⟨w', h1, h2, h3⟩ := run_make_own (P := Try.prog) w 0 22 62 i0 _ 2 Try.underlying22 hi hz0 hz1 .i64 .u64 n (by rw [hz2]; omega) (by unfold maxLen; omega) (Nat.zero_le _)
  exact ⟨w', h1, (Below.refl _ _).grown h3 (Nat.le_refl _) (fun k hk => by cases hk), h2, fun k hk => by (simp only [Value.ownBlock, Option.some.injEq] at hk; omega)⟩

/-- labels appended to a row of one's own; they may lie anywhere -/
theorem LabRow.append2 {ts t : TypeId} (hu : Try.prog.underlying ts = some (.slice t)) (hi : (Try.prog.info? t).map (fun i => (i.zero, i.size, i.bytes)) = some (some (.agg #[.string ⟨#[]⟩, .string ⟨#[]⟩]), 2, 32))
    {w wr W : World} {v : Value} {l : List Lab} (h : LabRow t w wr v l) (hW : Below wr.heap.size wr W) (x : Value) (m : List Lab) (hsrc : Src Try.prog 2 ts x m.length (cellsL m) W) (hl : (l.length + m.length) * 32 ≤ 140737488355328) :
    ∃ ao cap w', (Builtin.append_ #[ts, ts] ts #[v, x]).run Try.prog W = .ok (.slice ao (l.length + m.length) cap) w' ∧ LabRow t w w' (.slice ao (l.length + m.length) cap) (l ++ m) ∧ W.grownBy w' v.ownBlock := by
  obtain ⟨i0, hi, hz0, hz1, hz2⟩ := info_parts2 hi
  have hk := h.kept hW
  obtain ⟨v', w', h1, h2, h3, h4⟩ := Row.append_src (P := Try.prog) W ts ts ts t i0 _ 2 32 hu hi hz0 hz1 hz2 rfl (by decide) v l.length _ hk.row _ m.length _ hsrc (by unfold maxLen; omega) hl
  have hb : Below w.heap.size w w' := hk.below.grown h3 hk.below.size h.new
  have hnew : ∀ k, v'.ownBlock = some k → w.heap.size ≤ k := fun k hk2 => by
    rcases h4 with e | e
    · exact h.new k (by rw [← e]; exact hk2)
    · rw [hk2] at e
      injection e with e
      have := hk.below.size
      omega
  rw [← cellsL_append] at h2
  have h2' : w'.ownsRow 0 t 2 v' (l ++ m).length (cellsL (l ++ m)) := by rw [List.length_append]; exact h2
  rcases h2'.2 with ⟨e, h0⟩ | ⟨g, cap, cur, e, h5⟩
  · have hz : l.length + m.length = 0 := by rw [List.length_append] at h0; exact h0
    subst e
    exact ⟨none, 0, w', by rw [hz]; exact h1, ⟨hb, by rw [hz]; exact h2', by rw [hz]; exact hnew⟩, h3⟩
  · rw [List.length_append] at e
    subst e
    exact ⟨_, cap, w', h1, ⟨hb, h2', hnew⟩, h3⟩

theorem dec_lb {s : ByteArray} {c a : Nat} {p : ByteArray} {acc : List Lab} (h : lbE s (a : Int) ≠ 0) : decAux s (c + 1) a p acc = ([], 0, lbE s (a : Int)) := by
  rw [decAux, if_pos h]
theorem dec_tw {s : ByteArray} {c a : Nat} {p : ByteArray} {acc : List Lab} (h : lbE s (a : Int) = 0) (h2 : ¬ cmpS p (lbX s (a : Int)).n < 0) : decAux s (c + 1) a p acc = ([], 0, 42) := by
  rw [decAux, if_neg (by omega), if_pos h2]
theorem dec_go {s : ByteArray} {c a : Nat} {p : ByteArray} {acc : List Lab} (h : lbE s (a : Int) = 0) (h2 : cmpS p (lbX s (a : Int)).n < 0) : decAux s (c + 1) a p acc = decAux s c (lbN s (a : Int)) (lbX s (a : Int)).n (acc ++ [lbX s (a : Int)]) := by
  rw [decAux, if_neg (by omega), if_neg (by omega)]

set_option maxRecDepth 100000 in
set_option maxHeartbeats 4000000 in
theorem decode_any (s : ByteArray) (a : Int) (hs : s.size ≤ 140737488351232) (w : World) :
    Calls Try.prog 27 #[.string s, .int .i64 a] w fun e w' => ∃ v, e = .returned (.tuple #[v, .int .i64 ((decS s a).2.1 : Int), .int .i64 ((decS s a).2.2 : Int)]) ∧ LabRow 62 w w' v (decS s a).1 := by
  have h1 := fun W => readCount_any s a hs (rdV_lt s a) W
  have h2 := fun (b : Nat) W => readLabel_any s (b : Int) hs W
  have hle := rcV_le s a
  by_cases e0 : rcE s a = 0
  · obtain ⟨D, hD⟩ : ∃ D, decS s a = D := ⟨_, rfl⟩
    have hD2 : decAux s (rcV s a) (rcN s a) ByteArray.empty [] = D := by rw [← hD]; unfold decS; rw [if_neg (by omega)]
    rw [hD]
    rw [e0] at h1
    generalize rcV s a = V at *
    generalize rcN s a = N at *
    have H1 := Lib.hid h1
    have H2 := Lib.hid h2
    have HD := Lib.hid hD2
    clear h1 h2 hD hD2 e0
    obtain ⟨L0, N0, E0⟩ := D
    go_enter Try.func27, Try.ntmps27
    obtain ⟨wm, hrun, hR0⟩ := LabRow.made w V (by omega)
    have HR0 := Lib.hid hR0
    clear hR0
    go_wp2_with (go_at_call 49; ((with_reducible refine (H1.out _).mono ?_); rintro e w2 ⟨rfl, rfl⟩))
    clear hrun
    go_loopg [8, 10, 11, 26] V (fun r q8 q10 q11 q26 wr => ∃ (k b : Nat) (P : ByteArray) (S : List Lab) (ao : Option Addr) (n cap : Nat), Hid (k + r = V) ∧ k ≤ V ∧ q8 = .int .i64 (b : Int) ∧ q10 = .slice ao n cap ∧ q11 = .string P ∧ q26 = .int .u64 (k : Int) ∧ Hid (n = k) ∧ Hid (S.length = n) ∧ Hid (decAux s r b P S = (L0, N0, E0)) ∧ Hid (LabRow 62 w wr q10 S))
    case atStart => exact ⟨0, N, ByteArray.empty, [], _, 0, V, Nat.zero_add _, Nat.zero_le _, rfl, rfl, rfl, rfl, rfl, rfl, HD.out, HR0.out⟩
    case round =>
      obtain ⟨k, b, P, S, ao, n, cap, hE, hk, rfl, rfl, rfl, rfl, HN, HSL, HDA, HS⟩ := hrel
      by_cases hlt : k < V
      · obtain ⟨t, rfl⟩ : ∃ t, gk = t + 1 := ⟨gk - 1, by have := hE.out; omega⟩
        have hda := HDA.out
        have hb := fun W => H2.out b W
        by_cases f0 : lbE s (b : Int) = 0
        · rw [f0] at hb
          by_cases f1 : cmpS P (lbX s (b : Int)).n < 0
          · rw [dec_go f0 f1] at hda
            obtain ⟨X, hX⟩ : ∃ X, lbX s (b : Int) = X := ⟨_, rfl⟩
            rw [hX] at hda hb f1
            generalize lbN s (b : Int) = M at hda hb
            obtain ⟨xn, xv⟩ := X
            simp only [Lab.val] at hda hb f1
            have g1 : Op.bytesLess xn.toList P.toList = false := by rw [less_cmp]; have := cmpS_ord.swap P xn; exact decide_eq_false (by omega)
            have g2 : (xn.toList == P.toList) = false := str_ne (fun e => by rw [e, cmpS_ord.refl] at f1; omega)
            have hap : ∀ W, Below wr.heap.size wr W → ∃ ao' cap' w9, (Builtin.append_ #[22, 22] 22 #[.slice ao n cap, .slice (some ⟨W.heap.size, 0, none⟩) 1 1]).run Try.prog (W.alloc (.cells #[.string xn, .string xv] 62)) = .ok (.slice ao' (n + 1) cap') w9 ∧ LabRow 62 w w9 (.slice ao' (n + 1) cap') (S ++ [⟨xn, xv⟩]) ∧ (∀ o x, W.cell? ⟨wr.heap.size, o, none⟩ = some x → w9.cell? ⟨wr.heap.size, o, none⟩ = some x) := fun W hW => by
              have hsrc : Src Try.prog 2 22 (.slice (some ⟨W.heap.size, 0, none⟩) 1 1) 1 (cellsL [⟨xn, xv⟩]) (W.alloc (.cells #[.string xn, .string xv] 62)) := by
                refine Src.ofSlice _ Try.underlying22 _ 1 1 _ rfl ?_ (cellsL_one _)
                intro j u hu
                rw [Go.WideShapes.add_plain, Nat.zero_add]
                exact cell_new rfl (by simpa [cellsL, Lab.cells] using hu)
              obtain ⟨ao', cap', w9, h1, h2, h3⟩ := LabRow.append2 Try.underlying22 lab_info HS.out (le_below hW (below_alloc _ _)) _ [⟨xn, xv⟩] hsrc (by rw [HSL.out, HN.out]; simp only [List.length_cons, List.length_nil]; omega)
              rw [HSL.out] at h1 h2
              refine ⟨ao', cap', w9, h1, h2, fun o x hx => ?_⟩
              have hlt9 : wr.heap.size < W.heap.size := World.block_lt_of_cell? W _ hx
              have hne : some wr.heap.size ≠ (Value.slice ao n cap).ownBlock := fun e => by
                rcases HS.out.row.2 with ⟨e2, _⟩ | ⟨g, cap3, cur, e2, _, h4, _⟩
                · rw [e2] at e; cases e
                · rw [e2] at e
                  simp only [Value.ownBlock, Option.some.injEq] at e
                  have := (Array.getElem?_eq_some_iff.1 h4).1
                  omega
              have hbl := h3.block wr.heap.size (by rw [World.size_alloc]; omega) hne
              rw [heap_alloc_old W _ hlt9] at hbl
              rw [← hx]
              simp only [World.cell?, hbl]
            have HAP := Lib.hid hap
            have HDA2 := Lib.hid hda
            have HB := Lib.hid hb
            clear hap hda hb f0 f1 hX
            go_wp2_with (first
              | (go_at_call 50; ((with_reducible refine (HB.out _).mono ?_); rintro e w2 ⟨rfl, hb2⟩; obtain ⟨hc2, hf2⟩ := bcell hb2; have hz2 : wr.heap.size < w2.heap.size := (by have := hb2.size; simp at this; omega); have hW : Below wr.heap.size wr ((w2.setCell ⟨wr.heap.size, 0, none⟩ (.string xn)).setCell ⟨wr.heap.size, 1, none⟩ (.string xv)) := ((le_below (below_alloc _ _) hb2).setCell (Nat.le_refl _) _).setCell (Nat.le_refl _) _; obtain ⟨ao', cap', w9, hrun, hR9, hk9⟩ := HAP.out _ hW; rw [World.size_setCell, World.size_setCell] at hrun; have HRun := Lib.hid hrun; have HR9 := Lib.hid hR9; have HK9 := Lib.hid hk9; clear hrun hR9 hk9 hW; have c0 : w2.cell? ⟨wr.heap.size, 0, none⟩ = some (.string ⟨#[]⟩) := (hc2 _ _ (by simp)).trans (World.cell?_alloc_new _ _ _ _); have c1 : w2.cell? ⟨wr.heap.size, 1, none⟩ = some (.string ⟨#[]⟩) := (hc2 _ _ (by simp)).trans (World.cell?_alloc_new _ _ _ _); have k0 := HK9.out 0 _ (two_set c0 c1 (.string xn) (.string xv)).1))
              | (at_builtin; refine Row.append_by rfl (.tmp 42) (.tmp 44) _ rfl _ _ rfl rfl HRun.out ?_))
            go_roundg t
            case measure => omega
            case rel => exact ⟨k + 1, M, xn, S ++ [Lab.mk xn xv], ao', n + 1, cap', by show _ = _; have := hE.out; omega, by omega, rfl, rfl, rfl, by go_num, by show _ = _; have := HN.out; omega, by show _ = _; rw [List.length_append, HSL.out]; rfl, HDA2.out, HR9.out⟩
          · rw [dec_tw f0 f1] at hda
            injection hda with d1 d2
            injection d2 with d2 d3
            subst d1 d2 d3
            obtain ⟨X, hX⟩ : ∃ X, lbX s (b : Int) = X := ⟨_, rfl⟩
            rw [hX] at hb f1
            generalize lbN s (b : Int) = M at hb
            obtain ⟨xn, xv⟩ := X
            simp only [Lab.val] at hb f1
            have g0 : (Op.bytesLess xn.toList P.toList || xn.toList == P.toList) = true := by
              rcases cmp3 P xn with ⟨c1, _, _, _, _⟩ | ⟨_, _, _, _, c5⟩ | ⟨_, _, c3, _, _⟩
              · exact absurd (by omega) f1
              · rw [str_eq c5.symm]; simp
              · rw [c3]; rfl
            have HB := Lib.hid hb
            have HSB := Lib.hid HS.out.below
            clear hb f0 f1 hX
            rcases Bool.or_eq_true_iff.1 g0 with g1 | g1
            all_goals
              clear g0
              go_wp2_with (go_at_call 50; ((with_reducible refine (HB.out _).mono ?_); rintro e w2 ⟨rfl, hb2⟩; obtain ⟨hc2, hf2⟩ := bcell hb2; have hz2 : wr.heap.size < w2.heap.size := (by have := hb2.size; simp at this; omega)))
              all_goals
                go_ret3
                exact ⟨_, rfl, ((le_below HSB.out (le_below (below_alloc _ _) hb2)).setCell HSB.out.size _).setCell HSB.out.size _, World.ownsRow_nil _ _ _ _, fun k hk => by cases hk⟩
        · rw [dec_lb f0] at hda
          injection hda with d1 d2
          injection d2 with d2 d3
          subst d1 d2
          have g1 : ((lbE s (b : Int) : Int) != 0) = true := by rw [bne_iff_ne]; omega
          rw [d3] at g1 hb
          generalize lbN s (b : Int) = M at hb
          generalize lbX s (b : Int) = X at hb
          obtain ⟨xn, xv⟩ := X
          simp only [Lab.val] at hb
          have HB := Lib.hid hb
          have HSB := Lib.hid HS.out.below
          clear hb f0 d3
          go_wp2_with (go_at_call 50; ((with_reducible refine (HB.out _).mono ?_); rintro e w2 ⟨rfl, hb2⟩; obtain ⟨hc2, hf2⟩ := bcell hb2; have hz2 : wr.heap.size < w2.heap.size := (by have := hb2.size; simp at this; omega)))
          go_ret3
          exact ⟨_, rfl, ((le_below HSB.out (le_below (below_alloc _ _) hb2)).setCell HSB.out.size _).setCell HSB.out.size _, World.ownsRow_nil _ _ _ _, fun k hk => by cases hk⟩
      · obtain rfl : k = V := by omega
        obtain rfl : gk = 0 := by have := hE.out; omega
        have hda := HDA.out
        rw [decAux] at hda
        injection hda with d1 d2
        injection d2 with d2 d3
        subst d1 d2 d3
        go_wp2_with fail
        go_ret3
        exact ⟨_, rfl, HS.out⟩
  · have hD : decS s a = ([], 0, rcE s a) := by unfold decS; rw [if_pos e0]
    rw [hD]
    have g1 : ((rcE s a : Int) != 0) = true := by rw [bne_iff_ne]; omega
    simp only
    generalize rcE s a = E at *
    generalize rcV s a = V at *
    generalize rcN s a = N at *
    have H1 := Lib.hid h1
    clear h1 h2 hD e0
    go_enter Try.func27, Try.ntmps27
    go_wp2_with (go_at_call 49; ((with_reducible refine (H1.out _).mono ?_); rintro e w2 ⟨rfl, rfl⟩))
    go_ret3
    exact ⟨_, rfl, LabRow.nil _ _⟩
end Go.Proofs.Ytlolhbhanjhkbaa.Lab
