/-
  A set out of its packed bytes: contracts of the document's symbol and Unpack. Own text.
-/
import Derived.Test.YtcpkogboaniehaaSUnp3
import Derived.Test.YtcpkogboaniehaaLRefD
namespace Go.Proofs.Ytcpkogboaniehaa.Sym
open Go.RowKit Go Go.Proofs.Ytcpkogboaniehaa.Base Go.Proofs.Ytcpkogboaniehaa.Lab Go.Shelf Go.Sort Go.Proofs.Ytcpkogboaniehaa.Enc

theorem sl_one {T : List ByteArray} {s : ByteArray} {a : Int} (h : syE T s a ≠ 0) : slE T s a = syE T s a := by unfold slE; rw [if_pos h]
theorem sl_two {T : List ByteArray} {s : ByteArray} {a : Int} (h : syE T s a = 0) (h2 : syE T s (syN T s a : Int) ≠ 0) : slE T s a = syE T s (syN T s a : Int) := by unfold slE; rw [if_neg (fun k => k h), if_pos h2]
theorem sl_lab {T : List ByteArray} {s : ByteArray} {a : Int} (h : syE T s a = 0) (h2 : syE T s (syN T s a : Int) = 0) : slE T s a = labE ⟨syS T s a, syS T s (syN T s a : Int)⟩ := by unfold slE; rw [if_neg (fun k => k h), if_neg (fun k => k h2)]
theorem sl_x {T : List ByteArray} {s : ByteArray} {a : Int} (h : slE T s a = 0) : slX T s a = ⟨syS T s a, syS T s (syN T s a : Int)⟩ ∧ slN T s a = syN T s (syN T s a : Int) := by
  unfold slX slN; rw [if_pos h, if_pos h]; exact ⟨rfl, rfl⟩
theorem syS_size (T : List ByteArray) (s : ByteArray) (h : ∀ k, k < T.length → T[k]!.size < 4611686018427387904) (a : Int) : (syS T s a).size < 4611686018427387904 := by
  unfold syS luS
  split
  · split
    · rename_i h2; exact h _ h2
    · decide
  · decide

set_option maxRecDepth 100000 in
theorem refSymbol_any (ao : Option Addr) (cap : Nat) (T : List ByteArray) (w : World) (hl : T.length * 16 ≤ 140737488355328) (hT : TextsAt w ao T) (s : ByteArray) (a : Int) (hs : s.size ≤ 140737488351232) :
    Calls Try.prog 43 #[.slice ao T.length cap, .string s, .int .i64 a] w fun e w' => e = .returned (.tuple #[.string (syS T s a), .int .i64 (syN T s a : Int), .int .i64 (syE T s a : Int)]) ∧ w = w' := by
  have h1 := refReadUint_any s a hs w
  by_cases e0 : rdE s a = 0
  · have k0 : syE T s a = luE T (rdV s a) := by unfold syE; rw [if_neg (fun h => h e0)]
    rw [e0] at h1
    by_cases hlt : rdV s a < T.length
    · have f0 : luE T (rdV s a) = 0 := if_pos hlt
      have f1 : luS T (rdV s a) = T[rdV s a]! := if_pos hlt
      have k1 : syS T s a = T[rdV s a]! := by unfold syS; rw [if_pos (by rw [k0]; exact f0), f1]
      have k2 : syN T s a = rdN s a := by unfold syN; rw [if_pos (by rw [k0]; exact f0)]
      rw [k0, k1, k2, f0]
      obtain ⟨b, off, rfl, _, hc⟩ := hT _ hlt
      generalize T[rdV s a]! = X at *
      generalize rdV s a = V at *
      generalize rdN s a = N at *
      have H1 := Lib.hid h1
      have hn : T.length < 4611686018427387904 := by omega
      clear h1 e0 f0 f1 k0 k1 k2 hT hl
      go_enter Try.func43, Try.ntmps43
      go_wp2_with (go_at_call 42; refine H1.out.mono ?_; rintro e w' ⟨rfl, rfl⟩)
      go_ret3
      exact ⟨rfl, rfl⟩
    · have f0 : luE T (rdV s a) = 50 := if_neg hlt
      have k1 : syS T s a = ByteArray.empty := by unfold syS; rw [if_neg (by rw [k0, f0]; decide)]
      have k2 : syN T s a = 0 := by unfold syN; rw [if_neg (by rw [k0, f0]; decide)]
      rw [k0, k1, k2, f0]
      generalize rdV s a = V at *
      generalize rdN s a = N at *
      have H1 := Lib.hid h1
      have hn : T.length < 4611686018427387904 := by omega
      have hge : T.length ≤ V := by omega
      clear h1 e0 f0 k0 k1 k2 hT hl hlt
      go_enter Try.func43, Try.ntmps43
      go_wp2_with (go_at_call 42; refine H1.out.mono ?_; rintro e w' ⟨rfl, rfl⟩)
      go_ret3
      exact ⟨rfl, rfl⟩
  · have k0 : syE T s a = rdE s a := by unfold syE; rw [if_pos e0]
    have k1 : syS T s a = ByteArray.empty := by unfold syS; rw [if_neg (by rw [k0]; exact e0)]
    have k2 : syN T s a = 0 := by unfold syN; rw [if_neg (by rw [k0]; exact e0)]
    rw [k0, k1, k2]
    have g1 : ((rdE s a : Int) != 0) = true := by rw [bne_iff_ne]; omega
    generalize rdE s a = E at *
    generalize rdV s a = V at *
    generalize rdN s a = N at *
    have H1 := Lib.hid h1
    clear h1 e0 k0 k1 k2 hT hl
    go_enter Try.func43, Try.ntmps43
    go_wp2_with (go_at_call 42; refine H1.out.mono ?_; rintro e w' ⟨rfl, rfl⟩)
    go_ret3
    exact ⟨rfl, rfl⟩

set_option maxRecDepth 100000 in
set_option maxHeartbeats 8000000 in
theorem refUnpack_any (xao : Option Addr) (xcap : Nat) (T : List ByteArray) (w : World) (hTl : T.length * 16 ≤ 140737488355328) (hTT : TextsAt w xao T) (hTs : ∀ k, k < T.length → T[k]!.size < 4611686018427387904) (s : ByteArray) (a : Int) (hs : s.size ≤ 140737488351232) :
    Calls Try.prog 22 #[.slice xao T.length xcap, .string s, .int .i64 a] w fun e w' => ∃ v, e = .returned (.tuple #[v, .int .i64 ((upS T s a).2.1 : Int), .int .i64 ((upS T s a).2.2 : Int)]) ∧ LabRow 70 w w' v (upS T s a).1 := by
  have h1 := fun W => refReadUint_any s a hs W
  have hV := rdV_lt s a
  by_cases e0 : rdE s a = 0
  · rw [e0] at h1
    have hce : rcE s a = cntE (rdV s a) := by unfold rcE; rw [if_neg (fun h => h e0)]
    by_cases v0 : rdV s a = 0
    · have hD : upS T s a = ([], 0, 43) := by unfold upS; rw [hce, v0]; rfl
      rw [hD]
      rw [v0] at h1
      generalize rdN s a = N at *
      have H1 := Lib.hid h1
      clear h1 hV e0 hce v0 hD
      go_enter Try.func22, Try.ntmps22
      go_wp2_with (go_at_call 42; ((with_reducible refine (H1.out _).mono ?_); rintro e w2 ⟨rfl, rfl⟩))
      go_ret3
      exact ⟨_, rfl, LabRow.nil _ _⟩
    · have z0 : ((rdV s a : Int) == 0) = false := by rw [beq_eq_false_iff_ne]; omega
      by_cases v8 : 8 < rdV s a
      · have hcn : cntE (rdV s a) = 44 := by unfold cntE; rw [if_neg v0, if_pos v8]
        have hD : upS T s a = ([], 0, 44) := by unfold upS; rw [hce, hcn]; rfl
        rw [hD]
        generalize rdV s a = V at *
        generalize rdN s a = N at *
        have H1 := Lib.hid h1
        have HV := Lib.hid hV
        clear h1 hV e0 hce v0 hD hcn
        go_enter Try.func22, Try.ntmps22
        go_wp2_with (go_at_call 42; ((with_reducible refine (H1.out _).mono ?_); rintro e w2 ⟨rfl, rfl⟩))
        go_ret3
        exact ⟨_, rfl, LabRow.nil _ _⟩
      · have hcn : cntE (rdV s a) = 0 := by unfold cntE; rw [if_neg v0, if_neg v8]
        have hc0 : rcE s a = 0 := by rw [hce, hcn]
        obtain ⟨D, hD⟩ : ∃ D, upS T s a = D := ⟨_, rfl⟩
        have hD2 : upAux T s (rdV s a) (rdN s a) ByteArray.empty [] = D := by
          rw [← hD]; unfold upS
          rw [if_neg (by omega), (by unfold rcV; rw [if_pos hc0] : rcV s a = rdV s a), (by unfold rcN; rw [if_pos hc0] : rcN s a = rdN s a)]
        rw [hD]
        have h2 := fun (b : Nat) (W : World) (hb : Below w.heap.size w W) => refSymbol_any xao xcap T W hTl (hTT.below hb (Nat.le_refl _)) s (b : Int) hs
        have HTS := Lib.hid hTs
        generalize rdV s a = V at *
        generalize rdN s a = N at *
        have H1 := Lib.hid h1
        have H2 := Lib.hid h2
        have HD := Lib.hid hD2
        have hV8 : V ≤ 8 := by omega
        have HSZ := Lib.hid hs
        clear h1 h2 hD hD2 e0 hV hce hcn hc0 v0 hs hTT hTs hTl
        obtain ⟨L0, N0, E0⟩ := D
        go_enter Try.func22, Try.ntmps22
        go_wp2_with (go_at_call 42; ((with_reducible refine (H1.out _).mono ?_); rintro e w2 ⟨rfl, rfl⟩))
        go_loopg [10, 12, 13] V (fun r q8 q10 q11 wr => ∃ (k b : Nat) (P : ByteArray) (S : List Lab) (ao : Option Addr) (n cap : Nat), Hid (k + r = V) ∧ k ≤ V ∧ q8 = .int .i64 (b : Int) ∧ q10 = .slice ao n cap ∧ q11 = .int .i64 (k : Int) ∧ Hid (n = k) ∧ Hid (S.length = n) ∧ Hid (0 < k → S[k - 1]!.n = P) ∧ Hid (k = 0 → P = ByteArray.empty) ∧ Hid (upAux T s r b P S = (L0, N0, E0)) ∧ Hid (LabRow 70 w wr q10 S))
        case atStart => exact ⟨0, N, ByteArray.empty, [], none, 0, 0, Nat.zero_add _, Nat.zero_le _, rfl, rfl, rfl, rfl, rfl, fun h => by omega, fun _ => rfl, HD.out, LabRow.nil _ _⟩
        case round =>
          obtain ⟨k, b, P, S, ao, n, cap, hE, hk, rfl, rfl, rfl, HN, HSL, HP, HP0, HDA, HS⟩ := hrel
          by_cases hlt : k < V
          · obtain ⟨t, rfl⟩ : ∃ t, gk = t + 1 := ⟨gk - 1, by have := hE.out; omega⟩
            have hda := HDA.out
            have ha := H2.out b wr HS.out.below
            have hb := H2.out (syN T s (b : Int)) wr HS.out.below
            have hTs2 := HTS.out
            have HSB := Lib.hid HS.out.below
            by_cases f0 : syE T s (b : Int) = 0
            · rw [f0] at ha
              by_cases f1 : syE T s (syN T s (b : Int) : Int) = 0
              · rw [f1] at hb
                have hl := sl_lab f0 f1
                have hx := fun h => sl_x (T := T) (s := s) (a := (b : Int)) h
                have hz1 := syS_size T s hTs2 (b : Int)
                have hz2 := syS_size T s hTs2 (syN T s (b : Int) : Int)
                have hs2 := HSZ.out
                clear hTs2
                have hn := fun W => refFitName_any (syS T s (b : Int)) (by omega) W
                have hv := fun W => refFitValue_any (syS T s (syN T s (b : Int) : Int)) (by omega) W
                unfold labE at hl
                simp only at hl
                generalize syS T s (b : Int) = A at ha hn hl hx
                generalize syS T s (syN T s (b : Int) : Int) = B at hb hv hl hx
                generalize syN T s (syN T s (b : Int) : Int) = M2 at hb hx
                generalize syN T s (b : Int) = M at ha hb
                clear hz1 hz2 hs2 f0 f1
                cases hn1 : fitN A
                · rw [hn1] at hn hl
                  rw [up_lb (by rw [hl]; simp)] at hda
                  injection hda with d1 d2
                  injection d2 with d2 d3
                  rw [hl] at d3
                  simp at d3
                  subst d1 d2 d3
                  have HA := Lib.hid ha
                  have HB := Lib.hid hb
                  have HN1 := Lib.hid hn
                  have HV1 := Lib.hid hv
                  clear ha hb hn hv hl hx hn1
                  go_wp2_with (first
                    | (go_at_call 43; ((with_reducible refine HA.out.mono ?_); rintro e w2 ⟨rfl, rfl⟩))
                    | (go_at_call 43; ((with_reducible refine HB.out.mono ?_); rintro e w3 ⟨rfl, rfl⟩))
                    | (go_at_call 44; ((with_reducible refine (HN1.out _).mono ?_); rintro e w4 ⟨rfl, rfl⟩))
                    | (go_at_call 45; ((with_reducible refine (HV1.out _).mono ?_); rintro e w5 ⟨rfl, rfl⟩)))
                  go_ret3
                  exact ⟨_, rfl, HSB.out, World.ownsRow_nil _ _ _ _, fun k hk => by cases hk⟩
                · rw [hn1] at hn hl
                  cases hn2 : fitV B
                  · rw [hn2] at hv hl
                    rw [up_lb (by rw [hl]; simp)] at hda
                    injection hda with d1 d2
                    injection d2 with d2 d3
                    rw [hl] at d3
                    simp at d3
                    subst d1 d2 d3
                    have HA := Lib.hid ha
                    have HB := Lib.hid hb
                    have HN1 := Lib.hid hn
                    have HV1 := Lib.hid hv
                    clear ha hb hn hv hl hx hn1 hn2
                    go_wp2_with (first
                      | (go_at_call 43; ((with_reducible refine HA.out.mono ?_); rintro e w2 ⟨rfl, rfl⟩))
                      | (go_at_call 43; ((with_reducible refine HB.out.mono ?_); rintro e w3 ⟨rfl, rfl⟩))
                      | (go_at_call 44; ((with_reducible refine (HN1.out _).mono ?_); rintro e w4 ⟨rfl, rfl⟩))
                      | (go_at_call 45; ((with_reducible refine (HV1.out _).mono ?_); rintro e w5 ⟨rfl, rfl⟩)))
                    go_ret3
                    exact ⟨_, rfl, HSB.out, World.ownsRow_nil _ _ _ _, fun k hk => by cases hk⟩
                  · rw [hn2] at hv hl
                    have hl0 : slE T s (b : Int) = 0 := by rw [hl]; simp
                    obtain ⟨hx1, hx2⟩ := hx hl0
                    have HA := Lib.hid ha
                    have HB := Lib.hid hb
                    have HN1 := Lib.hid hn
                    have HV1 := Lib.hid hv
                    have hsz1 := (fitN_size hn1).1
                    have hsrc : Src Try.prog 2 39 (.slice (some ⟨wr.heap.size, 0, none⟩) 1 1) 1 (cellsL [Lab.mk A B]) (wr.alloc (.cells #[.string A, .string B] 70)) := by
                      refine Src.ofSlice _ Try.underlying39 _ 1 1 _ rfl ?_ (cellsL_one _)
                      intro j u hu
                      rw [Go.WideShapes.add_plain, Nat.zero_add]
                      exact cell_new rfl (by simpa [cellsL, Lab.cells] using hu)
                    obtain ⟨ao', cap', w9, hrun, hR9⟩ := LabRow.append Try.underlying39 ref_info HS.out (below_alloc _ _) _ [Lab.mk A B] hsrc (by rw [HSL.out, HN.out]; simp only [List.length_cons, List.length_nil]; omega)
                    rw [HSL.out] at hrun hR9
                    have HRun := Lib.hid hrun
                    have HR9 := Lib.hid hR9
                    have hgo : cmpS P A < 0 → Hid (upAux T s t M2 A (S ++ [Lab.mk A B]) = (L0, N0, E0)) := fun h => by
                      rw [up_go hl0 (by rw [hx1]; exact h), hx1, hx2] at hda
                      exact hda
                    have hstop : ¬ cmpS P A < 0 → Hid (L0 = [] ∧ N0 = 0 ∧ E0 = 42) := fun h => by
                      rw [up_tw hl0 (by rw [hx1]; exact h)] at hda
                      injection hda with d1 d2
                      injection d2 with d2 d3
                      exact ⟨d1.symm, d2.symm, d3.symm⟩
                    have HGO := Lib.hid hgo
                    have HSTOP := Lib.hid hstop
                    clear hsrc hrun hR9 hgo hstop hda hl0 hx1 hx2 hx hl ha hb hn hv hn1 hn2
                    have hnext : Hid ((S ++ [Lab.mk A B]).length = n + 1) ∧ Hid (0 < k + 1 → (S ++ [Lab.mk A B])[k + 1 - 1]!.n = A) := by
                      refine ⟨by show _ = _; rw [List.length_append, HSL.out]; rfl, fun _ => ?_⟩
                      have hkl : k = S.length := by rw [HSL.out, HN.out]
                      rw [show k + 1 - 1 = k by omega, getElem!_pos _ k (by rw [List.length_append, ← hkl]; simp), List.getElem_append_right (by omega)]
                      simp [← hkl]
                    rcases Nat.eq_zero_or_pos k with rfl | hpos
                    · have hp0 := HP0.out rfl
                      have hda2 := HGO.out (by rw [hp0]; exact cmp_empty hsz1)
                      clear hp0
                      go_wp2_with (first
                      | (go_at_call 43; ((with_reducible refine HA.out.mono ?_); rintro e w2 ⟨rfl, rfl⟩))
                      | (go_at_call 43; ((with_reducible refine HB.out.mono ?_); rintro e w3 ⟨rfl, rfl⟩))
                      | (go_at_call 44; ((with_reducible refine (HN1.out _).mono ?_); rintro e w4 ⟨rfl, rfl⟩))
                      | (go_at_call 45; ((with_reducible refine (HV1.out _).mono ?_); rintro e w5 ⟨rfl, rfl⟩))
                      | (at_builtin; refine Row.append_by rfl (.tmp 83) (.tmp 87) _ rfl _ _ rfl rfl HRun.out ?_))
                      go_roundg t
                      case measure => omega
                      case rel => exact ⟨1, M2, A, S ++ [Lab.mk A B], ao', n + 1, cap', by show _ = _; have := hE.out; omega, by omega, rfl, rfl, by first | rfl | go_num, by show _ = _; have := HN.out; omega, hnext.1, hnext.2, fun h => by omega, hda2, HR9.out⟩
                    · obtain ⟨u, rfl⟩ : ∃ u, k = u + 1 := ⟨k - 1, by omega⟩
                      have hSl : S.length = u + 1 := by rw [HSL.out, HN.out]
                      obtain ⟨g, rfl, hnn, hgl, hgw, hcells, _⟩ := HS.out.shape (by omega)
                      obtain ⟨y0, _⟩ := hcells u (by omega)
                      have hpn := HP.out (by omega)
                      rw [show u + 1 - 1 = u by omega] at hpn
                      rw [hpn] at y0
                      have hqz : ((u + 1 : Nat) : Int) = (u : Int) + 1 := by omega
                      have bc : (u : Int) < (n : Int) := by have := HN.out; omega
                      have pc : (0 : Int) ≤ (u : Int) := by omega
                      have hd0 : decide ((0 : Int) < (u : Int) + 1) = true := decide_eq_true (by omega)
                      rw [hqz]
                      have HSL2 := Lib.hid hSl
                      clear hpos hSl hnn hcells hpn hqz
                      rcases cmp3 P A with ⟨c1, c2, c3, c4, c5⟩ | ⟨c1, c2, c3, c4, c5⟩ | ⟨c1, c2, c3, c4, c5⟩
                      · have hda2 := HGO.out (by omega)
                        have c6 : (A.toList == P.toList) = false := str_ne (fun e => c5 e.symm)
                        clear c1 c4 c5
                        go_wp2_with (first
                      | (go_at_call 43; ((with_reducible refine HA.out.mono ?_); rintro e w2 ⟨rfl, rfl⟩))
                      | (go_at_call 43; ((with_reducible refine HB.out.mono ?_); rintro e w3 ⟨rfl, rfl⟩))
                      | (go_at_call 44; ((with_reducible refine (HN1.out _).mono ?_); rintro e w4 ⟨rfl, rfl⟩))
                      | (go_at_call 45; ((with_reducible refine (HV1.out _).mono ?_); rintro e w5 ⟨rfl, rfl⟩))
                      | (at_builtin; refine Row.append_by rfl (.tmp 83) (.tmp 87) _ rfl _ _ rfl rfl HRun.out ?_))
                        go_roundg t
                        case measure => omega
                        case rel => exact ⟨u + 1 + 1, M2, A, S ++ [Lab.mk A B], ao', n + 1, cap', by show _ = _; have := hE.out; omega, by omega, rfl, rfl, by first | rfl | go_num, by show _ = _; have := HN.out; omega, hnext.1, hnext.2, fun h => by omega, hda2, HR9.out⟩
                      · obtain ⟨rfl, rfl, rfl⟩ := (HSTOP.out (by omega)).out
                        have c6 : (A.toList == P.toList) = true := str_eq c5.symm
                        clear c1 c4 c5
                        go_wp2_with (first
                      | (go_at_call 43; ((with_reducible refine HA.out.mono ?_); rintro e w2 ⟨rfl, rfl⟩))
                      | (go_at_call 43; ((with_reducible refine HB.out.mono ?_); rintro e w3 ⟨rfl, rfl⟩))
                      | (go_at_call 44; ((with_reducible refine (HN1.out _).mono ?_); rintro e w4 ⟨rfl, rfl⟩))
                      | (go_at_call 45; ((with_reducible refine (HV1.out _).mono ?_); rintro e w5 ⟨rfl, rfl⟩)))
                        go_ret3
                        exact ⟨_, rfl, HSB.out, World.ownsRow_nil _ _ _ _, fun k hk => by cases hk⟩
                      · obtain ⟨rfl, rfl, rfl⟩ := (HSTOP.out (by omega)).out
                        have c6 : (A.toList == P.toList) = false := str_ne (fun e => c5 e.symm)
                        clear c1 c4 c5
                        go_wp2_with (first
                      | (go_at_call 43; ((with_reducible refine HA.out.mono ?_); rintro e w2 ⟨rfl, rfl⟩))
                      | (go_at_call 43; ((with_reducible refine HB.out.mono ?_); rintro e w3 ⟨rfl, rfl⟩))
                      | (go_at_call 44; ((with_reducible refine (HN1.out _).mono ?_); rintro e w4 ⟨rfl, rfl⟩))
                      | (go_at_call 45; ((with_reducible refine (HV1.out _).mono ?_); rintro e w5 ⟨rfl, rfl⟩)))
                        go_ret3
                        exact ⟨_, rfl, HSB.out, World.ownsRow_nil _ _ _ _, fun k hk => by cases hk⟩
              · rw [up_lb (by rw [sl_two f0 f1]; exact f1), sl_two f0 f1] at hda
                injection hda with d1 d2
                injection d2 with d2 d3
                subst d1 d2
                have g1 : ((syE T s (syN T s (b : Int) : Int) : Int) != 0) = true := by rw [bne_iff_ne]; omega
                rw [d3] at g1 hb
                generalize syS T s (b : Int) = A at ha
                generalize syS T s (syN T s (b : Int) : Int) = B at hb
                generalize syN T s (syN T s (b : Int) : Int) = M2 at hb
                generalize syN T s (b : Int) = M at ha hb
                have HA := Lib.hid ha
                have HB := Lib.hid hb
                clear ha hb f0 f1 d3
                go_wp2_with (first
                  | (go_at_call 43; ((with_reducible refine HA.out.mono ?_); rintro e w2 ⟨rfl, rfl⟩))
                  | (go_at_call 43; ((with_reducible refine HB.out.mono ?_); rintro e w3 ⟨rfl, rfl⟩)))
                go_ret3
                exact ⟨_, rfl, HSB.out, World.ownsRow_nil _ _ _ _, fun k hk => by cases hk⟩
            · rw [up_lb (by rw [sl_one f0]; exact f0), sl_one f0] at hda
              injection hda with d1 d2
              injection d2 with d2 d3
              subst d1 d2
              have g1 : ((syE T s (b : Int) : Int) != 0) = true := by rw [bne_iff_ne]; omega
              rw [d3] at g1 ha
              generalize syS T s (b : Int) = A at ha
              generalize syN T s (b : Int) = M at ha
              have HA := Lib.hid ha
              clear ha hb f0 d3
              go_wp2_with (go_at_call 43; ((with_reducible refine HA.out.mono ?_); rintro e w2 ⟨rfl, rfl⟩))
              go_ret3
              exact ⟨_, rfl, HSB.out, World.ownsRow_nil _ _ _ _, fun k hk => by cases hk⟩
          · obtain rfl : k = V := by omega
            obtain rfl : gk = 0 := by have := hE.out; omega
            have hda := HDA.out
            rw [upAux] at hda
            injection hda with d1 d2
            injection d2 with d2 d3
            subst d1 d2 d3
            go_wp2_with fail
            go_ret3
            exact ⟨_, rfl, HS.out⟩
  · have hce : rcE s a = rdE s a := by unfold rcE; rw [if_pos e0]
    have hD : upS T s a = ([], 0, rdE s a) := by unfold upS; rw [hce, if_pos e0]
    rw [hD]
    have g1 : ((rdE s a : Int) != 0) = true := by rw [bne_iff_ne]; omega
    simp only
    clear hce hD
    generalize rdE s a = E at *
    generalize rdV s a = V at *
    generalize rdN s a = N at *
    have H1 := Lib.hid h1
    clear h1 e0 hV
    go_enter Try.func22, Try.ntmps22
    go_wp2_with (go_at_call 42; ((with_reducible refine (H1.out _).mono ?_); rintro e w2 ⟨rfl, rfl⟩))
    go_ret3
    exact ⟨_, rfl, LabRow.nil _ _⟩
end Go.Proofs.Ytcpkogboaniehaa.Sym
