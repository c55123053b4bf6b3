/-
  The laws EncUints, EncInts, EncTexts, EncSeals, EncFrames: their walks. Own text.
-/
import Derived.Test.YtdedkhifnecgkaaDoorEWakes
namespace Go.Proofs.YtdedkhifnecgkaaDoor.Enc
open Go.RowKit Go Go.Proofs.YtdedkhifnecgkaaDoor.Base

theorem uints_walk (x : Nat) (s : ByteArray) (a : Int) (w : World) (hx : x < 18446744073709551616) (hs : s.size ≤ 140737488351232) (hT : Tab w) :
    Calls Tryd.prog 3 #[.int .u64 (x : Int), .string s, .int .i64 a] w fun e w' => e = .returned (.bool true) ∧ Below w.heap.size w w' := by
  have H1 := Lib.hid (readUint_any s a hs)
  have H2 := Lib.hid (refReadUint_any s a hs)
  have H3 := Lib.hid (wakes_any w hT)
  have H4 := Lib.hid (uint_any x hx)
  have H5 := Lib.hid (refUint_any x hx)
  clear hT hx hs
  generalize rdV s a = v at *
  generalize rdN s a = n at *
  generalize rdE s a = k at *
  generalize uintS x = u at *
  go_enter Tryd.func3, Tryd.ntmps3
  go_wp2_with (go_at_call 12; refine (H1.out _).mono ?_; rintro e w1 ⟨rfl, rfl⟩)
  go_wp2_with (go_at_call 13; refine (H2.out _).mono ?_; rintro e w1 ⟨rfl, rfl⟩)
  go_wp2_with (go_at_call 14; refine H3.out.mono ?_; rintro e w1 ⟨rfl, h1⟩)
  go_wp2_with (go_at_call 15; refine (H4.out _).mono ?_; rintro e w2 ⟨rfl, h2⟩)
  go_wp2_with (go_at_call 16; refine (H5.out _).mono ?_; rintro e w3 ⟨rfl, h3⟩)
  go_ret
  exact ⟨rfl, below_then (below_then h1 h2) h3⟩

theorem ints_walk (v : Int) (s : ByteArray) (a : Int) (w : World) (h1 : -9223372036854775808 ≤ v) (h2 : v ≤ 9223372036854775807) (hs : s.size ≤ 140737488351232) (hT : Tab w) :
    Calls Tryd.prog 4 #[.int .i64 v, .string s, .int .i64 a] w fun e w' => e = .returned (.bool true) ∧ Below w.heap.size w w' := by
  have H1 := Lib.hid (readInt_any s a hs)
  have H2 := Lib.hid (refReadInt_any s a hs)
  have H3 := Lib.hid (wakes_any w hT)
  have H4 := Lib.hid (int_any v h1 h2)
  have H5 := Lib.hid (refInt_any v h1 h2)
  clear hT h1 h2 hs
  generalize un (rdV s a) = r at *
  generalize rdN s a = n at *
  generalize rdE s a = k at *
  generalize uintS (zz v) = u at *
  go_enter Tryd.func4, Tryd.ntmps4
  go_wp2_with (go_at_call 17; refine (H1.out _).mono ?_; rintro e w1 ⟨rfl, rfl⟩)
  go_wp2_with (go_at_call 18; refine (H2.out _).mono ?_; rintro e w1 ⟨rfl, rfl⟩)
  go_wp2_with (go_at_call 14; refine H3.out.mono ?_; rintro e w1 ⟨rfl, h1⟩)
  go_wp2_with (go_at_call 19; refine (H4.out _).mono ?_; rintro e w2 ⟨rfl, h2⟩)
  go_wp2_with (go_at_call 20; refine (H5.out _).mono ?_; rintro e w3 ⟨rfl, h3⟩)
  go_ret
  exact ⟨rfl, below_then (below_then h1 h2) h3⟩

theorem texts_walk (t s : ByteArray) (a : Int) (w : World) (ht : t.size ≤ 140737488351232) (hs : s.size ≤ 140737488351232) (hT : Tab w) :
    Calls Tryd.prog 5 #[.string t, .string s, .int .i64 a] w fun e w' => e = .returned (.bool true) ∧ Below w.heap.size w w' := by
  have H1 := Lib.hid (readText_any s a hs)
  have H2 := Lib.hid (refReadText_any s a hs)
  have H3 := Lib.hid (wakes_any w hT)
  have H4 := Lib.hid (text_any t ht)
  have H5 := Lib.hid (refText_any t ht)
  clear hT ht hs
  generalize txS s a = r at *
  generalize txN s a = n at *
  generalize txE s a = k at *
  generalize textS t = u at *
  go_enter Tryd.func5, Tryd.ntmps5
  go_wp2_with (go_at_call 21; refine (H1.out _).mono ?_; rintro e w1 ⟨rfl, rfl⟩)
  go_wp2_with (go_at_call 22; refine (H2.out _).mono ?_; rintro e w1 ⟨rfl, rfl⟩)
  go_wp2_with (go_at_call 14; refine H3.out.mono ?_; rintro e w1 ⟨rfl, h1⟩)
  go_wp2_with (go_at_call 23; refine (H4.out _).mono ?_; rintro e w2 ⟨rfl, h2⟩)
  go_wp2_with (go_at_call 24; refine (H5.out _).mono ?_; rintro e w3 ⟨rfl, h3⟩)
  go_ret
  exact ⟨rfl, below_then (below_then h1 h2) h3⟩

theorem seals_walk (b s : ByteArray) (w : World) (hb : b.size ≤ 140737488351232) (hs : s.size ≤ 140737488351232) (hT : Tab w) :
    Calls Tryd.prog 8 #[.string b, .string s] w fun e w' => e = .returned (.bool true) ∧ Below w.heap.size w w' := by
  have H1 := Lib.hid (unseal_any s hs)
  have H2 := Lib.hid (refUnseal_any s hs)
  have H3 := Lib.hid wakes_any
  have H4 := Lib.hid (seal_any b hb)
  have H5 := Lib.hid (refSeal_any b hb)
  have HT := Lib.hid hT
  clear hT hb hs
  generalize usS s = r at *
  generalize usE s = k at *
  generalize sealS b = u at *
  go_enter Tryd.func8, Tryd.ntmps8
  go_wp2_with (go_at_call 31; refine (H1.out _ HT.out).mono ?_; rintro e w1 ⟨rfl, h1⟩)
  go_wp2_with (go_at_call 32; refine (H2.out _).mono ?_; rintro e w2 ⟨rfl, h2⟩)
  have h12 := below_then h1 h2
  have HT2 := Lib.hid (HT.out.below h12 (Nat.le_refl _))
  go_wp2_with (go_at_call 14; refine (H3.out _ HT2.out).mono ?_; rintro e w3 ⟨rfl, h3⟩)
  have h13 := below_then h12 h3
  have HT3 := Lib.hid (HT.out.below h13 (Nat.le_refl _))
  go_wp2_with (go_at_call 33; refine (H4.out _ HT3.out).mono ?_; rintro e w4 ⟨rfl, h4⟩)
  go_wp2_with (go_at_call 34; refine (H5.out _).mono ?_; rintro e w5 ⟨rfl, h5⟩)
  go_ret
  exact ⟨rfl, below_then (below_then h13 h4) h5⟩

/-- what both answer to a text that is read as a frame -/
theorem unframe_both (s : ByteArray) (a : Int) (hs : s.size ≤ 140737488351232) (ha : a ≤ 9223372036854775807) : ∃ t n e,
    (∀ w : World, Tab w → Calls Tryd.prog 29 #[.string s, .int .i64 a] w fun e' w' => e' = .returned (.tuple #[.string t, .int .i64 n, .int .i64 e]) ∧ Below w.heap.size w w') ∧
    (∀ w : World, Calls Tryd.prog 30 #[.string s, .int .i64 a] w fun e' w' => e' = .returned (.tuple #[.string t, .int .i64 n, .int .i64 e]) ∧ Below w.heap.size w w') := by
  by_cases h0 : a < 0
  · exact ⟨_, _, _, fun w _ => unframe_neg s a h0 w, fun w => refUnframe_neg s a h0 w⟩
  · obtain ⟨b, rfl⟩ := Int.eq_ofNat_of_zero_le (show 0 ≤ a by omega)
    by_cases h1 : s.size < b + 4
    · exact ⟨_, _, _, fun w _ => unframe_short s b hs h1 ha w, fun w => refUnframe_short s b h1 w⟩
    · obtain ⟨t, n, e, hF⟩ := fr_some s b
      exact ⟨_, _, _, fun w hT => unframe_in s b _ t n e hs rfl hF (by omega) w hT, fun w => refUnframe_in s b _ t n e hs rfl hF (by omega) w⟩

theorem frames_walk (p s : ByteArray) (a : Int) (w : World) (hp : p.size ≤ 140737488351232) (hs : s.size ≤ 140737488351232) (ha : a ≤ 9223372036854775807) (hT : Tab w) :
    Calls Tryd.prog 7 #[.string p, .string s, .int .i64 a] w fun e w' => e = .returned (.bool true) ∧ Below w.heap.size w w' := by
  obtain ⟨t, n, k, h1, h2⟩ := unframe_both s a hs ha
  have H1 := Lib.hid h1
  have H2 := Lib.hid h2
  have H3 := Lib.hid wakes_any
  have H4 := Lib.hid (frame_any p hp)
  have H5 := Lib.hid (refFrame_any p hp)
  have HT := Lib.hid hT
  clear hT hp hs h1 h2 ha
  generalize frS p = r at *
  generalize frE p = m at *
  go_enter Tryd.func7, Tryd.ntmps7
  go_wp2_with (go_at_call 27; refine (H4.out _ HT.out).mono ?_; rintro e w1 ⟨rfl, h1⟩)
  go_wp2_with (go_at_call 28; refine (H5.out _).mono ?_; rintro e w2 ⟨rfl, h2⟩)
  have h12 := below_then h1 h2
  have HT2 := Lib.hid (HT.out.below h12 (Nat.le_refl _))
  go_wp2_with (go_at_call 29; refine (H1.out _ HT2.out).mono ?_; rintro e w3 ⟨rfl, h3⟩)
  go_wp2_with (go_at_call 30; refine (H2.out _).mono ?_; rintro e w4 ⟨rfl, h4⟩)
  have h14 := below_then (below_then h12 h3) h4
  have HT4 := Lib.hid (HT.out.below h14 (Nat.le_refl _))
  go_wp2_with (go_at_call 14; refine (H3.out _ HT4.out).mono ?_; rintro e w5 ⟨rfl, h5⟩)
  go_ret
  exact ⟨rfl, below_then h14 h5⟩
end Go.Proofs.YtdedkhifnecgkaaDoor.Enc
