/-
  A set out of its bytes: contract of the document's Decode. Own text.
-/
import Derived.Test.YtlolhbhanjhkbaaLDec2
namespace Go.Proofs.Ytlolhbhanjhkbaa.Lab
open Go.RowKit Go Go.Proofs.Ytlolhbhanjhkbaa.Base Go.Shelf Go.Sort Go.Proofs.Ytlolhbhanjhkbaa.Enc

theorem lb_one {s : ByteArray} {a : Int} (h : txE s a ≠ 0) : lbE s a = txE s a := by unfold lbE; rw [if_pos h]
theorem lb_two {s : ByteArray} {a : Int} (h : txE s a = 0) (h2 : txE s (txN s a : Int) ≠ 0) : lbE s a = txE s (txN s a : Int) := by unfold lbE; rw [if_neg (fun k => k h), if_pos h2]
theorem lb_lab {s : ByteArray} {a : Int} (h : txE s a = 0) (h2 : txE s (txN s a : Int) = 0) : lbE s a = labE ⟨txS s a, txS s (txN s a : Int)⟩ := by unfold lbE; rw [if_neg (fun k => k h), if_neg (fun k => k h2)]
theorem lb_x {s : ByteArray} {a : Int} (h : lbE s a = 0) : lbX s a = ⟨txS s a, txS s (txN s a : Int)⟩ ∧ lbN s a = txN s (txN s a : Int) := by
  unfold lbX lbN; rw [if_pos h, if_pos h]; exact ⟨rfl, rfl⟩
theorem cmp_empty {n : ByteArray} (h : 1 ≤ n.size) : cmpS ByteArray.empty n < 0 := by
  unfold cmpS
  cases hh : lst n with
  | nil =>
    have : n.size = 0 := by
      have := congrArg List.length hh
      simpa [lst] using this
    omega
  | cons x r => exact (by decide : (-1 : Int) < 0)

set_option maxRecDepth 100000 in
set_option maxHeartbeats 8000000 in
theorem refDecode_any (s : ByteArray) (a : Int) (hs : s.size ≤ 140737488351232) (w : World) :
    Calls Try.prog 28 #[.string s, .int .i64 a] w fun e w' => ∃ v, e = .returned (.tuple #[v, .int .i64 ((decS s a).2.1 : Int), .int .i64 ((decS s a).2.2 : Int)]) ∧ LabRow 66 w w' v (decS s a).1 := by
  have h1 := fun W => refReadUint_any s a hs W
  have hV := rdV_lt s a
  by_cases e0 : rdE s a = 0
  · rw [e0] at h1
    have hce : rcE s a = cntE (rdV s a) := by unfold rcE; rw [if_neg (fun h => h e0)]
    by_cases v0 : rdV s a = 0
    · have hD : decS s a = ([], 0, 43) := by unfold decS; rw [hce, v0]; rfl
      rw [hD]
      rw [v0] at h1
      generalize rdN s a = N at *
      have H1 := Lib.hid h1
      clear h1 hV e0 hce v0 hD
      go_enter Try.func28, Try.ntmps28
      go_wp2_with (go_at_call 51; ((with_reducible refine (H1.out _).mono ?_); rintro e w2 ⟨rfl, rfl⟩))
      go_ret3
      exact ⟨_, rfl, LabRow.nil _ _⟩
    · have z0 : ((rdV s a : Int) == 0) = false := by rw [beq_eq_false_iff_ne]; omega
      by_cases v8 : 8 < rdV s a
      · have hcn : cntE (rdV s a) = 44 := by unfold cntE; rw [if_neg v0, if_pos v8]
        have hD : decS s a = ([], 0, 44) := by unfold decS; rw [hce, hcn]; rfl
        rw [hD]
        generalize rdV s a = V at *
        generalize rdN s a = N at *
        have H1 := Lib.hid h1
        have HV := Lib.hid hV
        clear h1 hV e0 hce v0 hD hcn
        go_enter Try.func28, Try.ntmps28
        go_wp2_with (go_at_call 51; ((with_reducible refine (H1.out _).mono ?_); rintro e w2 ⟨rfl, rfl⟩))
        go_ret3
        exact ⟨_, rfl, LabRow.nil _ _⟩
      · have hcn : cntE (rdV s a) = 0 := by unfold cntE; rw [if_neg v0, if_neg v8]
        have hc0 : rcE s a = 0 := by rw [hce, hcn]
        obtain ⟨D, hD⟩ : ∃ D, decS s a = D := ⟨_, rfl⟩
        have hD2 : decAux s (rdV s a) (rdN s a) ByteArray.empty [] = D := by
          rw [← hD]; unfold decS
          rw [if_neg (by omega), (by unfold rcV; rw [if_pos hc0] : rcV s a = rdV s a), (by unfold rcN; rw [if_pos hc0] : rcN s a = rdN s a)]
        rw [hD]
        have h2 := fun (b : Nat) W => refReadText_any s (b : Int) hs W
        generalize rdV s a = V at *
        generalize rdN s a = N at *
        have H1 := Lib.hid h1
        have H2 := Lib.hid h2
        have HD := Lib.hid hD2
        have hV8 : V ≤ 8 := by omega
        have HSZ := Lib.hid hs
        clear h1 h2 hD hD2 e0 hV hce hcn hc0 v0 hs
        obtain ⟨L0, N0, E0⟩ := D
        go_enter Try.func28, Try.ntmps28
        go_wp2_with (go_at_call 51; ((with_reducible refine (H1.out _).mono ?_); rintro e w2 ⟨rfl, rfl⟩))
        go_loopg [8, 10, 11] V (fun r q8 q10 q11 wr => ∃ (k b : Nat) (P : ByteArray) (S : List Lab) (ao : Option Addr) (n cap : Nat), Hid (k + r = V) ∧ k ≤ V ∧ q8 = .int .i64 (b : Int) ∧ q10 = .slice ao n cap ∧ q11 = .int .i64 (k : Int) ∧ Hid (n = k) ∧ Hid (S.length = n) ∧ Hid (0 < k → S[k - 1]!.n = P) ∧ Hid (k = 0 → P = ByteArray.empty) ∧ Hid (decAux s r b P S = (L0, N0, E0)) ∧ Hid (LabRow 66 w wr q10 S))
        case atStart => exact ⟨0, N, ByteArray.empty, [], none, 0, 0, Nat.zero_add _, Nat.zero_le _, rfl, rfl, rfl, rfl, rfl, fun h => by omega, fun _ => rfl, HD.out, LabRow.nil _ _⟩
        case round =>
          obtain ⟨k, b, P, S, ao, n, cap, hE, hk, rfl, rfl, rfl, HN, HSL, HP, HP0, HDA, HS⟩ := hrel
          by_cases hlt : k < V
          · obtain ⟨t, rfl⟩ : ∃ t, gk = t + 1 := ⟨gk - 1, by have := hE.out; omega⟩
            have hda := HDA.out
            have ha := fun W => H2.out b W
            have hb := fun W => H2.out (txN s (b : Int)) W
            have HSB := Lib.hid HS.out.below
            by_cases f0 : txE s (b : Int) = 0
            · rw [f0] at ha
              by_cases f1 : txE s (txN s (b : Int) : Int) = 0
              · rw [f1] at hb
                have hl := lb_lab f0 f1
                have hx := fun h => lb_x (s := s) (a := (b : Int)) h
                have hz1 := txS_size s (b : Int)
                have hz2 := txS_size s (txN s (b : Int) : Int)
                have hs2 := HSZ.out
                have hn := fun W => refFitName_any (txS s (b : Int)) (by omega) W
                have hv := fun W => refFitValue_any (txS s (txN s (b : Int) : Int)) (by omega) W
                unfold labE at hl
                simp only at hl
                generalize txS s (b : Int) = A at ha hn hl hx
                generalize txS s (txN s (b : Int) : Int) = B at hb hv hl hx
                generalize txN s (txN s (b : Int) : Int) = M2 at hb hx
                generalize txN s (b : Int) = M at ha hb
                clear hz1 hz2 hs2 f0 f1
                cases hn1 : fitN A
                · rw [hn1] at hn hl
                  rw [dec_lb (by rw [hl]; simp)] at hda
                  injection hda with d1 d2
                  injection d2 with d2 d3
                  rw [hl] at d3
                  simp at d3
                  subst d1 d2 d3
                  have HA := Lib.hid ha
                  have HB := Lib.hid hb
                  have HN1 := Lib.hid hn
                  have HV1 := Lib.hid hv
                  clear ha hb hn hv hl hx hn1
                  go_wp2_with (first
                    | (go_at_call 52; ((with_reducible refine (HA.out _).mono ?_); rintro e w2 ⟨rfl, rfl⟩))
                    | (go_at_call 52; ((with_reducible refine (HB.out _).mono ?_); rintro e w3 ⟨rfl, rfl⟩))
                    | (go_at_call 41; ((with_reducible refine (HN1.out _).mono ?_); rintro e w4 ⟨rfl, rfl⟩))
                    | (go_at_call 42; ((with_reducible refine (HV1.out _).mono ?_); rintro e w5 ⟨rfl, rfl⟩)))
                  go_ret3
                  exact ⟨_, rfl, HSB.out, World.ownsRow_nil _ _ _ _, fun k hk => by cases hk⟩
                · rw [hn1] at hn hl
                  cases hn2 : fitV B
                  · rw [hn2] at hv hl
                    rw [dec_lb (by rw [hl]; simp)] at hda
                    injection hda with d1 d2
                    injection d2 with d2 d3
                    rw [hl] at d3
                    simp at d3
                    subst d1 d2 d3
                    have HA := Lib.hid ha
                    have HB := Lib.hid hb
                    have HN1 := Lib.hid hn
                    have HV1 := Lib.hid hv
                    clear ha hb hn hv hl hx hn1 hn2
                    go_wp2_with (first
                      | (go_at_call 52; ((with_reducible refine (HA.out _).mono ?_); rintro e w2 ⟨rfl, rfl⟩))
                      | (go_at_call 52; ((with_reducible refine (HB.out _).mono ?_); rintro e w3 ⟨rfl, rfl⟩))
                      | (go_at_call 41; ((with_reducible refine (HN1.out _).mono ?_); rintro e w4 ⟨rfl, rfl⟩))
                      | (go_at_call 42; ((with_reducible refine (HV1.out _).mono ?_); rintro e w5 ⟨rfl, rfl⟩)))
                    go_ret3
                    exact ⟨_, rfl, HSB.out, World.ownsRow_nil _ _ _ _, fun k hk => by cases hk⟩
                  · rw [hn2] at hv hl
                    have hl0 : lbE s (b : Int) = 0 := by rw [hl]; simp
                    obtain ⟨hx1, hx2⟩ := hx hl0
                    have HA := Lib.hid ha
                    have HB := Lib.hid hb
                    have HN1 := Lib.hid hn
                    have HV1 := Lib.hid hv
                    have hsz1 := (fitN_size hn1).1
                    have hsrc : Src Try.prog 2 27 (.slice (some ⟨wr.heap.size, 0, none⟩) 1 1) 1 (cellsL [Lab.mk A B]) (wr.alloc (.cells #[.string A, .string B] 66)) := by
                      refine Src.ofSlice _ Try.underlying27 _ 1 1 _ rfl ?_ (cellsL_one _)
                      intro j u hu
                      rw [Go.WideShapes.add_plain, Nat.zero_add]
                      exact cell_new rfl (by simpa [cellsL, Lab.cells] using hu)
                    obtain ⟨ao', cap', w9, hrun, hR9⟩ := LabRow.append Try.underlying27 ref_info HS.out (below_alloc _ _) _ [Lab.mk A B] hsrc (by rw [HSL.out, HN.out]; simp only [List.length_cons, List.length_nil]; omega)
                    rw [HSL.out] at hrun hR9
                    have HRun := Lib.hid hrun
                    have HR9 := Lib.hid hR9
                    have hgo : cmpS P A < 0 → Hid (decAux s t M2 A (S ++ [Lab.mk A B]) = (L0, N0, E0)) := fun h => by
                      rw [dec_go hl0 (by rw [hx1]; exact h), hx1, hx2] at hda
                      exact hda
                    have hstop : ¬ cmpS P A < 0 → Hid (L0 = [] ∧ N0 = 0 ∧ E0 = 42) := fun h => by
                      rw [dec_tw hl0 (by rw [hx1]; exact h)] at hda
                      injection hda with d1 d2
                      injection d2 with d2 d3
                      exact ⟨d1.symm, d2.symm, d3.symm⟩
                    have HGO := Lib.hid hgo
                    have HSTOP := Lib.hid hstop
                    clear hsrc hrun hR9 hgo hstop hda hl0 hx1 hx2 hx hl ha hb hn hv hn1 hn2
                    have hnext : Hid ((S ++ [Lab.mk A B]).length = n + 1) ∧ Hid (0 < k + 1 → (S ++ [Lab.mk A B])[k + 1 - 1]!.n = A) := by
                      refine ⟨by show _ = _; rw [List.length_append, HSL.out]; rfl, fun _ => ?_⟩
                      have hkl : k = S.length := by rw [HSL.out, HN.out]
                      rw [show k + 1 - 1 = k by omega, getElem!_pos _ k (by rw [List.length_append, ← hkl]; simp), List.getElem_append_right (by omega)]
                      simp [← hkl]
                    rcases Nat.eq_zero_or_pos k with rfl | hpos
                    · have hp0 := HP0.out rfl
                      have hda2 := HGO.out (by rw [hp0]; exact cmp_empty hsz1)
                      clear hp0
                      go_wp2_with (first
                      | (go_at_call 52; ((with_reducible refine (HA.out _).mono ?_); rintro e w2 ⟨rfl, rfl⟩))
                      | (go_at_call 52; ((with_reducible refine (HB.out _).mono ?_); rintro e w3 ⟨rfl, rfl⟩))
                      | (go_at_call 41; ((with_reducible refine (HN1.out _).mono ?_); rintro e w4 ⟨rfl, rfl⟩))
                      | (go_at_call 42; ((with_reducible refine (HV1.out _).mono ?_); rintro e w5 ⟨rfl, rfl⟩))
                      | (at_builtin; refine Row.append_by rfl (.tmp 79) (.tmp 83) _ rfl _ _ rfl rfl HRun.out ?_))
                      go_roundg t
                      case measure => omega
                      case rel => exact ⟨1, M2, A, S ++ [Lab.mk A B], ao', n + 1, cap', by show _ = _; have := hE.out; omega, by omega, rfl, rfl, by first | rfl | go_num, by show _ = _; have := HN.out; omega, hnext.1, hnext.2, fun h => by omega, hda2, HR9.out⟩
                    · obtain ⟨u, rfl⟩ : ∃ u, k = u + 1 := ⟨k - 1, by omega⟩
                      have hSl : S.length = u + 1 := by rw [HSL.out, HN.out]
                      obtain ⟨g, rfl, hnn, hgl, hgw, hcells, _⟩ := HS.out.shape (by omega)
                      obtain ⟨y0, _⟩ := hcells u (by omega)
                      have hpn := HP.out (by omega)
                      rw [show u + 1 - 1 = u by omega] at hpn
                      rw [hpn] at y0
                      have hqz : ((u + 1 : Nat) : Int) = (u : Int) + 1 := by omega
                      have bc : (u : Int) < (n : Int) := by have := HN.out; omega
                      have pc : (0 : Int) ≤ (u : Int) := by omega
                      have hd0 : decide ((0 : Int) < (u : Int) + 1) = true := decide_eq_true (by omega)
                      rw [hqz]
                      have HSL2 := Lib.hid hSl
                      clear hpos hSl hnn hcells hpn hqz
                      rcases cmp3 P A with ⟨c1, c2, c3, c4, c5⟩ | ⟨c1, c2, c3, c4, c5⟩ | ⟨c1, c2, c3, c4, c5⟩
                      · have hda2 := HGO.out (by omega)
                        have c6 : (A.toList == P.toList) = false := str_ne (fun e => c5 e.symm)
                        clear c1 c4 c5
                        go_wp2_with (first
                      | (go_at_call 52; ((with_reducible refine (HA.out _).mono ?_); rintro e w2 ⟨rfl, rfl⟩))
                      | (go_at_call 52; ((with_reducible refine (HB.out _).mono ?_); rintro e w3 ⟨rfl, rfl⟩))
                      | (go_at_call 41; ((with_reducible refine (HN1.out _).mono ?_); rintro e w4 ⟨rfl, rfl⟩))
                      | (go_at_call 42; ((with_reducible refine (HV1.out _).mono ?_); rintro e w5 ⟨rfl, rfl⟩))
                      | (at_builtin; refine Row.append_by rfl (.tmp 79) (.tmp 83) _ rfl _ _ rfl rfl HRun.out ?_))
                        go_roundg t
                        case measure => omega
                        case rel => exact ⟨u + 1 + 1, M2, A, S ++ [Lab.mk A B], ao', n + 1, cap', by show _ = _; have := hE.out; omega, by omega, rfl, rfl, by first | rfl | go_num, by show _ = _; have := HN.out; omega, hnext.1, hnext.2, fun h => by omega, hda2, HR9.out⟩
                      · obtain ⟨rfl, rfl, rfl⟩ := (HSTOP.out (by omega)).out
                        have c6 : (A.toList == P.toList) = true := str_eq c5.symm
                        clear c1 c4 c5
                        go_wp2_with (first
                      | (go_at_call 52; ((with_reducible refine (HA.out _).mono ?_); rintro e w2 ⟨rfl, rfl⟩))
                      | (go_at_call 52; ((with_reducible refine (HB.out _).mono ?_); rintro e w3 ⟨rfl, rfl⟩))
                      | (go_at_call 41; ((with_reducible refine (HN1.out _).mono ?_); rintro e w4 ⟨rfl, rfl⟩))
                      | (go_at_call 42; ((with_reducible refine (HV1.out _).mono ?_); rintro e w5 ⟨rfl, rfl⟩)))
                        go_ret3
                        exact ⟨_, rfl, HSB.out, World.ownsRow_nil _ _ _ _, fun k hk => by cases hk⟩
                      · obtain ⟨rfl, rfl, rfl⟩ := (HSTOP.out (by omega)).out
                        have c6 : (A.toList == P.toList) = false := str_ne (fun e => c5 e.symm)
                        clear c1 c4 c5
                        go_wp2_with (first
                      | (go_at_call 52; ((with_reducible refine (HA.out _).mono ?_); rintro e w2 ⟨rfl, rfl⟩))
                      | (go_at_call 52; ((with_reducible refine (HB.out _).mono ?_); rintro e w3 ⟨rfl, rfl⟩))
                      | (go_at_call 41; ((with_reducible refine (HN1.out _).mono ?_); rintro e w4 ⟨rfl, rfl⟩))
                      | (go_at_call 42; ((with_reducible refine (HV1.out _).mono ?_); rintro e w5 ⟨rfl, rfl⟩)))
                        go_ret3
                        exact ⟨_, rfl, HSB.out, World.ownsRow_nil _ _ _ _, fun k hk => by cases hk⟩
              · rw [dec_lb (by rw [lb_two f0 f1]; exact f1), lb_two f0 f1] at hda
                injection hda with d1 d2
                injection d2 with d2 d3
                subst d1 d2
                have g1 : ((txE s (txN s (b : Int) : Int) : Int) != 0) = true := by rw [bne_iff_ne]; omega
                rw [d3] at g1 hb
                generalize txS s (b : Int) = A at ha
                generalize txS s (txN s (b : Int) : Int) = B at hb
                generalize txN s (txN s (b : Int) : Int) = M2 at hb
                generalize txN s (b : Int) = M at ha hb
                have HA := Lib.hid ha
                have HB := Lib.hid hb
                clear ha hb f0 f1 d3
                go_wp2_with (first
                  | (go_at_call 52; ((with_reducible refine (HA.out _).mono ?_); rintro e w2 ⟨rfl, rfl⟩))
                  | (go_at_call 52; ((with_reducible refine (HB.out _).mono ?_); rintro e w3 ⟨rfl, rfl⟩)))
                go_ret3
                exact ⟨_, rfl, HSB.out, World.ownsRow_nil _ _ _ _, fun k hk => by cases hk⟩
            · rw [dec_lb (by rw [lb_one f0]; exact f0), lb_one f0] at hda
              injection hda with d1 d2
              injection d2 with d2 d3
              subst d1 d2
              have g1 : ((txE s (b : Int) : Int) != 0) = true := by rw [bne_iff_ne]; omega
              rw [d3] at g1 ha
              generalize txS s (b : Int) = A at ha
              generalize txN s (b : Int) = M at ha
              have HA := Lib.hid ha
              clear ha hb f0 d3
              go_wp2_with (go_at_call 52; ((with_reducible refine (HA.out _).mono ?_); rintro e w2 ⟨rfl, rfl⟩))
              go_ret3
              exact ⟨_, rfl, HSB.out, World.ownsRow_nil _ _ _ _, fun k hk => by cases hk⟩
          · obtain rfl : k = V := by omega
            obtain rfl : gk = 0 := by have := hE.out; omega
            have hda := HDA.out
            rw [decAux] at hda
            injection hda with d1 d2
            injection d2 with d2 d3
            subst d1 d2 d3
            go_wp2_with fail
            go_ret3
            exact ⟨_, rfl, HS.out⟩
  · have hce : rcE s a = rdE s a := by unfold rcE; rw [if_pos e0]
    have hD : decS s a = ([], 0, rdE s a) := by unfold decS; rw [hce, if_pos e0]
    rw [hD]
    have g1 : ((rdE s a : Int) != 0) = true := by rw [bne_iff_ne]; omega
    simp only
    clear hce hD
    generalize rdE s a = E at *
    generalize rdV s a = V at *
    generalize rdN s a = N at *
    have H1 := Lib.hid h1
    clear h1 e0 hV
    go_enter Try.func28, Try.ntmps28
    go_wp2_with (go_at_call 51; ((with_reducible refine (H1.out _).mono ?_); rintro e w2 ⟨rfl, rfl⟩))
    go_ret3
    exact ⟨_, rfl, LabRow.nil _ _⟩
end Go.Proofs.Ytlolhbhanjhkbaa.Lab
