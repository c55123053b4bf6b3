/-
  The law LabelsOne: its walk. Own text.
-/
import Derived.Test.YtlolhbhanjhkbaaLOpen
import Derived.Test.YtlolhbhanjhkbaaLPureD
import Derived.Test.YtlolhbhanjhkbaaLPureQ
import Derived.Test.YtlolhbhanjhkbaaLWalk3
namespace Go.Proofs.Ytlolhbhanjhkbaa.Lab
open Go.RowKit Go Go.Proofs.Ytlolhbhanjhkbaa.Base Go.Shelf Go.Sort Go.Proofs.Ytlolhbhanjhkbaa.Enc

theorem readS_len (s : ByteArray) : (readS s).length ≤ 8 := by
  unfold readS
  cases h : readL s with
  | none => simp
  | some l =>
    have := rlR_len h
    simp only
    split
    · simpa using this
    · simp
theorem decS_form {s : ByteArray} {b : Nat} {L : List Lab} {N : Nat} (h : decS s (b : Int) = (L, N, 0)) : setE L = 0 ∧ b ≤ N ∧ N ≤ s.size ∧ encS L = s.extract b N := by
  obtain ⟨h1, h2, h3, h4⟩ := decS_one h
  exact ⟨h1, h2, h3, nums_inj (by rw [h4, seg_extract])⟩

set_option maxRecDepth 100000 in
set_option maxHeartbeats 4000000 in
theorem one_walk (s : ByteArray) (w : World) (hs : s.size ≤ 140737488351232) :
    Calls Try.prog 10 #[.string s] w fun e w' => e = .returned (.bool true) ∧ Below w.heap.size w w' := by
  have hw := fun W => wakes_any W
  have h1 := fun W => decode_any s 0 hs W
  have h3 := fun W => read_any s hs W
  have hdl := decS_len s 0
  have hrl := readS_len s
  have h2 := fun (W : World) (x : Option Addr) (cx : Nat) (hc : (decS s 0).1.length ≤ cx) (hx : LabsAt W x (decS s 0).1) => encode_any x cx (decS s 0).1 W (by omega) hc hx
  have h4 := fun (W : World) (x : Option Addr) (cx : Nat) (hc : (readS s).length ≤ cx) (hx : LabsAt W x (readS s)) => show_any x cx (readS s) W (by omega) hc hx
  have hd : ∀ L N, decS s 0 = (L, N, 0) → setE L = 0 ∧ 0 ≤ N ∧ N ≤ s.size ∧ encS L = s.extract 0 N := fun L N h => decS_form (b := 0) h
  have hr1 : readE s = 0 → showS (readS s) = s := fun h => (read_one h).2
  have hr2 : readE s ≠ 0 → readS s = [] := fun h => readS_none h
  generalize decS s 0 = D at *
  obtain ⟨L, N, E⟩ := D
  simp only at h1 h2 hdl
  generalize readE s = F at *
  generalize readS s = M at *
  have ts : (s.toList == s.toList) = true := str_eq rfl
  have HW := Lib.hid hw
  by_cases hE : E = 0
  · subst hE
    obtain ⟨d1, _, d3, d4⟩ := hd L N rfl
    rw [d1, d4] at h2
    have tt : ((s.extract 0 N).toList == (s.extract 0 N).toList) = true := str_eq rfl
    by_cases hF : F = 0
    · subst hF
      rw [hr1 rfl] at h4
      have H1 := Lib.hid h1
      have H2 := Lib.hid h2
      have H3 := Lib.hid h3
      have H4 := Lib.hid h4
      clear hw h1 h2 h3 h4 hd hr1 hr2 d1 d4 hdl hrl
      go_enter Try.func10, Try.ntmps10
      go_wp2_with (go_at_call 17; ((with_reducible refine (HW.out _).mono ?_); rintro e w1 ⟨rfl, hb1⟩; have B1 := Lib.hid hb1; clear hb1))
      go_wp2_with (go_at_call 27; ((with_reducible refine (H1.out _).mono ?_); rintro e w2 ⟨v2, rfl, hrow⟩; obtain ⟨ao2, cap2, rfl, hc2, hlab⟩ := hrow.labs; have B2 := Lib.hid (le_below B1.out hrow.below); have L2 := Lib.hid hlab; have C2 := Lib.hid hc2; clear hrow hlab hc2))
      go_wp2_with (go_at_call 25; ((with_reducible refine (H2.out _ _ _ C2.out L2.out).mono ?_); rintro e w3 ⟨rfl, hb3⟩; have B3 := Lib.hid (le_below B2.out hb3); clear hb3))
      go_wp2_with (go_at_call 29; ((with_reducible refine (H3.out _).mono ?_); rintro e w4 ⟨v4, rfl, hrow⟩; obtain ⟨ao4, cap4, rfl, hc4, hlab⟩ := hrow.labs; have B4 := Lib.hid (le_below B3.out hrow.below); have L4 := Lib.hid hlab; have C4 := Lib.hid hc4; clear hrow hlab hc4))
      go_wp2_with (go_at_call 31; ((with_reducible refine (H4.out _ _ _ C4.out L4.out).mono ?_); rintro e w5 ⟨rfl, hb5⟩; have B5 := Lib.hid (le_below B4.out hb5); clear hb5))
      go_ret
      exact ⟨by first | rfl | exact ret_bool (by simp), B5.out⟩
    · have e0 := hr2 hF
      subst e0
      have H1 := Lib.hid h1
      have H2 := Lib.hid h2
      have H3 := Lib.hid h3
      clear hw h1 h2 h3 h4 hd hr1 hr2 d1 d4 hdl hrl
      go_enter Try.func10, Try.ntmps10
      go_wp2_with (go_at_call 17; ((with_reducible refine (HW.out _).mono ?_); rintro e w1 ⟨rfl, hb1⟩; have B1 := Lib.hid hb1; clear hb1))
      go_wp2_with (go_at_call 27; ((with_reducible refine (H1.out _).mono ?_); rintro e w2 ⟨v2, rfl, hrow⟩; obtain ⟨ao2, cap2, rfl, hc2, hlab⟩ := hrow.labs; have B2 := Lib.hid (le_below B1.out hrow.below); have L2 := Lib.hid hlab; have C2 := Lib.hid hc2; clear hrow hlab hc2))
      go_wp2_with (go_at_call 25; ((with_reducible refine (H2.out _ _ _ C2.out L2.out).mono ?_); rintro e w3 ⟨rfl, hb3⟩; have B3 := Lib.hid (le_below B2.out hb3); clear hb3))
      go_wp2_with (go_at_call 29; ((with_reducible refine (H3.out _).mono ?_); rintro e w4 ⟨v4, rfl, hrow⟩; obtain ⟨ao4, cap4, rfl, hc4, hlab⟩ := hrow.labs; have B4 := Lib.hid (le_below B3.out hrow.below); clear hrow hlab hc4))
      go_ret
      exact ⟨by first | rfl | exact ret_bool (by simp), B4.out⟩
  · by_cases hF : F = 0
    · subst hF
      rw [hr1 rfl] at h4
      have H1 := Lib.hid h1
      have H3 := Lib.hid h3
      have H4 := Lib.hid h4
      clear hw h1 h2 h3 h4 hd hr1 hr2 hdl hrl
      go_enter Try.func10, Try.ntmps10
      go_wp2_with (go_at_call 17; ((with_reducible refine (HW.out _).mono ?_); rintro e w1 ⟨rfl, hb1⟩; have B1 := Lib.hid hb1; clear hb1))
      go_wp2_with (go_at_call 27; ((with_reducible refine (H1.out _).mono ?_); rintro e w2 ⟨v2, rfl, hrow⟩; obtain ⟨ao2, cap2, rfl, hc2, hlab⟩ := hrow.labs; have B2 := Lib.hid (le_below B1.out hrow.below); clear hrow hlab hc2))
      go_wp2_with (go_at_call 29; ((with_reducible refine (H3.out _).mono ?_); rintro e w4 ⟨v4, rfl, hrow⟩; obtain ⟨ao4, cap4, rfl, hc4, hlab⟩ := hrow.labs; have B4 := Lib.hid (le_below B2.out hrow.below); have L4 := Lib.hid hlab; have C4 := Lib.hid hc4; clear hrow hlab hc4))
      go_wp2_with (go_at_call 31; ((with_reducible refine (H4.out _ _ _ C4.out L4.out).mono ?_); rintro e w5 ⟨rfl, hb5⟩; have B5 := Lib.hid (le_below B4.out hb5); clear hb5))
      go_ret
      exact ⟨by first | rfl | exact ret_bool (by simp), B5.out⟩
    · have e0 := hr2 hF
      subst e0
      have H1 := Lib.hid h1
      have H3 := Lib.hid h3
      clear hw h1 h2 h3 h4 hd hr1 hr2 hdl hrl
      go_enter Try.func10, Try.ntmps10
      go_wp2_with (go_at_call 17; ((with_reducible refine (HW.out _).mono ?_); rintro e w1 ⟨rfl, hb1⟩; have B1 := Lib.hid hb1; clear hb1))
      go_wp2_with (go_at_call 27; ((with_reducible refine (H1.out _).mono ?_); rintro e w2 ⟨v2, rfl, hrow⟩; obtain ⟨ao2, cap2, rfl, hc2, hlab⟩ := hrow.labs; have B2 := Lib.hid (le_below B1.out hrow.below); clear hrow hlab hc2))
      go_wp2_with (go_at_call 29; ((with_reducible refine (H3.out _).mono ?_); rintro e w4 ⟨v4, rfl, hrow⟩; obtain ⟨ao4, cap4, rfl, hc4, hlab⟩ := hrow.labs; have B4 := Lib.hid (le_below B2.out hrow.below); clear hrow hlab hc4))
      go_ret
      exact ⟨by first | rfl | exact ret_bool (by simp), B4.out⟩
end Go.Proofs.Ytlolhbhanjhkbaa.Lab
