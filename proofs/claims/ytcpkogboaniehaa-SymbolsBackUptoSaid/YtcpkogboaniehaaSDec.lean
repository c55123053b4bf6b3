/-
  A table out of its bytes: contract of Decode. Own text.
-/
import Derived.Test.YtcpkogboaniehaaSPureD
namespace Go.Proofs.Ytcpkogboaniehaa.Sym
open Go.RowKit Go Go.Proofs.Ytcpkogboaniehaa.Base Go.Proofs.Ytcpkogboaniehaa.Lab Go.Shelf Go.Sort Go.Proofs.Ytcpkogboaniehaa.Enc

theorem rdN_le {s : ByteArray} {a : Int} (h : rdE s a = 0) : rdN s a ≤ s.size := by
  by_cases ho : a < 0 ∨ (s.size : Int) ≤ a
  · rw [rdE_out s a ho] at h; cases h
  · obtain ⟨b, rfl⟩ := Int.eq_ofNat_of_zero_le (show 0 ≤ a by omega)
    exact (one_form s b (by omega) h).2.1
theorem ris_snoc {S : List ByteArray} {x : ByteArray} (h : Ris S) (hx : ¬ (0 < S.length ∧ ¬ cmpS S[S.length - 1]! x < 0)) : Ris (S ++ [x]) := by
  refine List.pairwise_append.2 ⟨h, List.pairwise_singleton _ _, fun y hy z hz => ?_⟩
  rw [List.mem_singleton.1 hz]
  obtain ⟨i, hi, rfl⟩ := List.mem_iff_getElem.1 hy
  have hl : cmpS S[S.length - 1]! x < 0 := by
    by_cases h1 : cmpS S[S.length - 1]! x < 0
    · exact h1
    · exact absurd ⟨by omega, h1⟩ hx
  rcases Nat.lt_or_ge i (S.length - 1) with h1 | h1
  · have := ris_at h h1 (by omega)
    rw [getElem!_pos S i hi] at this
    exact cmpS_ord.lt_le this (by omega)
  · rwa [getElem!_pos S (S.length - 1) (by omega), show S[S.length - 1] = S[i] from by congr 1; omega] at hl

theorem StrRow.at {w wr : World} {ao : Option Addr} {n cap : Nat} {S : List ByteArray} (h : StrRow w wr (.slice ao n cap) S) : TextsAt wr ao S := by
  obtain ⟨ao1, cap1, he, _, ht⟩ := h.texts
  injection he with he1 _ _
  subst he1
  exact ht

/-- what Decode answers: a new table, or nil -/
def DecPost (w w' : World) (p : Value) (D : List ByteArray × Nat × Nat) : Prop := (D.2.2 = 0 → NewTab w w' p D.1) ∧ (D.2.2 ≠ 0 → p = .pointer none) ∧ Below w.heap.size w w'

set_option maxRecDepth 100000 in
set_option maxHeartbeats 4000000 in
theorem decode_any (s : ByteArray) (a : Int) (hs : s.size * 16 ≤ 140737488351232) (w : World) :
    Calls Try.prog 26 #[.string s, .int .i64 a] w fun e w' => ∃ p, e = .returned (.tuple #[p, .int .i64 ((dtS s a).2.1 : Int), .int .i64 ((dtS s a).2.2 : Int)]) ∧ DecPost w w' p (dtS s a) := by
  have h1 := fun W => readUint_any s a (by omega) W
  have h2 := fun (b : Nat) W => readText_any s (b : Int) (by omega) W
  by_cases e0 : rdE s a = 0
  · obtain ⟨L0, N0, E0, hD⟩ : ∃ L0 N0 E0, dtS s a = (L0, N0, E0) := ⟨_, _, _, rfl⟩
    have hD2 : dtAux s (rdV s a) (rdN s a) [] = (L0, N0, E0) := by rw [← hD]; unfold dtS; rw [if_neg (by omega)]
    rw [hD]
    have hnl := rdN_le e0
    rw [e0] at h1
    have hV := rdV_lt s a
    generalize rdV s a = V at *
    generalize rdN s a = N at *
    have H1 := Lib.hid h1
    have H2 := Lib.hid h2
    have HD := Lib.hid hD2
    have HNL := Lib.hid hnl
    have HS := Lib.hid hs
    clear h1 h2 hD hD2 e0 hnl hs
    go_enter Try.func26, Try.ntmps26
    go_wp2_with (go_at_call 50; ((with_reducible refine (H1.out _).mono ?_); rintro e w2 ⟨rfl, rfl⟩))
    go_loopg [8, 10, 24] V (fun r q8 q10 q24 wr => ∃ (k b : Nat) (S : List ByteArray) (ao : Option Addr) (n cap : Nat), Hid (k + r = V) ∧ k ≤ V ∧ q8 = .int .i64 (b : Int) ∧ q10 = .slice ao n cap ∧ q24 = .int .u64 (k : Int) ∧ Hid (S.length = n) ∧ Hid (n ≤ b) ∧ Hid (b ≤ s.size) ∧ Hid (Ris S) ∧ Hid (dtAux s r b S = (L0, N0, E0)) ∧ Hid (StrRow w wr q10 S))
    case atStart => exact ⟨0, N, [], none, 0, 0, Nat.zero_add _, Nat.zero_le _, rfl, rfl, rfl, rfl, Nat.zero_le _, HNL.out, List.Pairwise.nil, HD.out, StrRow.nil w⟩
    case round =>
      obtain ⟨k, b, S, ao, n, cap, hE, hk, rfl, rfl, rfl, HSL, HNB, HBS, HR, HDA, HRow⟩ := hrel
      by_cases hlt : k < V
      · obtain ⟨t, rfl⟩ : ∃ t, gk = t + 1 := ⟨gk - 1, by have := hE.out; omega⟩
        have hda := HDA.out
        have hb := fun W => H2.out b W
        by_cases f0 : txE s (b : Int) = 0
        · rw [f0] at hb
          have hone := text_one s b f0
          have hn62 : n < 4611686018427387904 := by have := HNB.out; have := HBS.out; have := HS.out; omega
          have hgo := fun h => dt_go (acc := S) (c := t) f0 h
          have hord := fun h => dt_ord (acc := S) (c := t) f0 h
          have hsn := fun h => ris_snoc (x := txS s (b : Int)) HR.out h
          rw [hda] at hgo hord
          have hap := HRow.out.one HSL.out (txS s (b : Int)) (by have := HNB.out; have := HBS.out; have := HS.out; omega) wr (Below.refl _ _) rfl
          rw [HSL.out] at hgo hord hsn
          generalize txS s (b : Int) = X at *
          generalize txN s (b : Int) = M at *
          have HB := Lib.hid hb
          have HMB := Lib.hid (show n + 1 ≤ M ∧ M ≤ s.size by have := HNB.out; omega)
          have HGO := Lib.hid hgo
          have HORD := Lib.hid hord
          have HSN := Lib.hid hsn
          clear hb hgo hord hsn hone f0 hda
          rcases Nat.eq_zero_or_pos n with h0 | h0
          · subst h0
            obtain ⟨ao', cap', w', hrun, hrow⟩ := hap
            have HRun := Lib.hid hrun
            have HRow2 := Lib.hid hrow
            have hg := HGO.out (fun h => by omega)
            have hr2 := HSN.out (fun h => by omega)
            have HG := Lib.hid hg
            have HR2 := Lib.hid hr2
            clear hrun hrow hg hr2 HDA
            go_wp2_with (first
              | (go_at_call 51; ((with_reducible refine (HB.out _).mono ?_); rintro e w2 ⟨rfl, rfl⟩))
              | (at_builtin; refine Row.append_by rfl (.tmp 49) (.tmp 51) _ rfl _ _ rfl rfl HRun.out ?_))
            go_roundg t
            case measure => omega
            case rel => exact ⟨k + 1, M, S ++ [X], ao', 0 + 1, cap', by show _ = _; have := hE.out; omega, by omega, rfl, rfl, by go_num, by show _ = _; rw [List.length_append, HSL.out]; rfl, HMB.out.1, HMB.out.2, HR2.out, HG.out.symm, HRow2.out⟩
          · obtain ⟨u, rfl⟩ : ∃ u, n = u + 1 := ⟨n - 1, by omega⟩
            have ht := HRow.out.at
            have hSl := HSL.out
            obtain ⟨g, og, rfl, hgw, q0⟩ := ht u (by omega)
            have hqz : ((u + 1 : Nat) : Int) = (u : Int) + 1 := by omega
            rw [show u + 1 - 1 = u by omega] at *
            have HGO2 := Lib.hid HGO.out
            have HORD2 := Lib.hid HORD.out
            have HSN2 := Lib.hid HSN.out
            clear HGO HORD HSN
            generalize S[u]! = P at *
            obtain ⟨ao', cap', w', hrun, hrow⟩ := hap
            have HRun := Lib.hid hrun
            have HRow2 := Lib.hid hrow
            have HSL2 := Lib.hid hSl
            clear hrun hrow ht h0 hSl
            rcases cmp3 P X with ⟨c1, c2, c3, c4, c5⟩ | ⟨c1, c2, c3, c4, c5⟩ | ⟨c1, c2, c3, c4, c5⟩
            · have c6 : (X.toList == P.toList) = false := str_ne (fun e => c5 e.symm)
              have hg := HGO2.out (fun h => by omega)
              have hr2 := HSN2.out (fun h => by omega)
              have HG := Lib.hid hg
              have HR2 := Lib.hid hr2
              clear hg hr2 HDA c1 c4 c5
              go_wp2_with (first
                | (go_at_call 51; ((with_reducible refine (HB.out _).mono ?_); rintro e w2 ⟨rfl, rfl⟩))
                | (at_builtin; refine Row.append_by rfl (.tmp 49) (.tmp 51) _ rfl _ _ rfl rfl HRun.out ?_))
              go_roundg t
              case measure => omega
              case rel => exact ⟨k + 1, M, S ++ [X], ao', u + 1 + 1, cap', by show _ = _; have := hE.out; omega, by omega, rfl, rfl, by go_num, by show _ = _; rw [List.length_append, HSL2.out]; rfl, HMB.out.1, HMB.out.2, HR2.out, HG.out.symm, HRow2.out⟩
            · have c6 : (X.toList == P.toList) = true := str_eq c5.symm
              have ho := HORD2.out ⟨by omega, by omega⟩
              injection ho with d1 d2
              injection d2 with d2 d3
              subst d1 d2 d3
              have HSB := Lib.hid HRow.out.below
              clear HDA c1 c4 c5
              go_wp2_with (go_at_call 51; ((with_reducible refine (HB.out _).mono ?_); rintro e w2 ⟨rfl, rfl⟩))
              go_ret3
              exact ⟨_, rfl, fun h => (by cases h), fun _ => rfl, HSB.out⟩
            · have c6 : (X.toList == P.toList) = false := str_ne (fun e => c5 e.symm)
              have ho := HORD2.out ⟨by omega, by omega⟩
              injection ho with d1 d2
              injection d2 with d2 d3
              subst d1 d2 d3
              have HSB := Lib.hid HRow.out.below
              clear HDA c1 c4 c5
              go_wp2_with (go_at_call 51; ((with_reducible refine (HB.out _).mono ?_); rintro e w2 ⟨rfl, rfl⟩))
              go_ret3
              exact ⟨_, rfl, fun h => (by cases h), fun _ => rfl, HSB.out⟩
        · rw [dt_err f0] at hda
          injection hda with d1 d2
          injection d2 with d2 d3
          subst d1 d2
          have g1 : ((txE s (b : Int) : Int) != 0) = true := by rw [bne_iff_ne]; omega
          rw [d3] at g1 hb
          have hE0 : E0 ≠ 0 := by rw [← d3]; exact f0
          generalize txS s (b : Int) = X at hb
          generalize txN s (b : Int) = M at hb
          have HB := Lib.hid hb
          have HSB := Lib.hid HRow.out.below
          have HE0 := Lib.hid hE0
          clear hb f0 d3 hE0
          go_wp2_with (go_at_call 51; ((with_reducible refine (HB.out _).mono ?_); rintro e w2 ⟨rfl, rfl⟩))
          go_ret3
          exact ⟨_, rfl, fun h => absurd h HE0.out, fun _ => rfl, HSB.out⟩
      · obtain rfl : k = V := by omega
        obtain rfl : gk = 0 := by have := hE.out; omega
        have hda := HDA.out
        rw [dtAux] at hda
        injection hda with d1 d2
        injection d2 with d2 d3
        subst d1 d2 d3
        obtain ⟨ao1, cap1, he, _, ht⟩ := HRow.out.texts
        injection he with he1 he2 he3
        subst he1 he3
        have HNT := Lib.hid (new_tab (cap := cap) HRow.out.below ht (by have := HSL.out; have := HNB.out; have := HBS.out; have := HS.out; omega) HR.out 96)
        rw [← he2] at HNT
        clear ht he2
        go_wp2_with fail
        go_ret3
        exact ⟨_, rfl, fun _ => HNT.out, fun h => absurd rfl h, HNT.out.below⟩
  · have hD : dtS s a = ([], 0, rdE s a) := by unfold dtS; rw [if_pos e0]
    rw [hD]
    have g1 : ((rdE s a : Int) != 0) = true := by rw [bne_iff_ne]; omega
    have HE0 := Lib.hid e0
    generalize rdE s a = E at *
    generalize rdV s a = V at *
    generalize rdN s a = N at *
    have H1 := Lib.hid h1
    clear h1 h2 hD e0
    go_enter Try.func26, Try.ntmps26
    go_wp2_with (go_at_call 50; ((with_reducible refine (H1.out _).mono ?_); rintro e w2 ⟨rfl, rfl⟩))
    go_ret3
    exact ⟨_, rfl, fun h => absurd h HE0.out, fun _ => rfl, Below.refl _ _⟩

end Go.Proofs.Ytcpkogboaniehaa.Sym
