/-
  The law LabelsQuotes: its walk. Own text.
-/
import Derived.Test.YtlolhbhanjhkbaaLWalk4
import Derived.Test.YtlolhbhanjhkbaaLRefU
namespace Go.Proofs.Ytlolhbhanjhkbaa.Lab
open Go.RowKit Go Go.Proofs.Ytlolhbhanjhkbaa.Base Go.Shelf Go.Sort Go.Proofs.Ytlolhbhanjhkbaa.Enc

theorem quote_back (v : ByteArray) : unq (quoteS v ++ ⟨#[120]⟩) 0 = some (nums v, (quoteS v).size) := by
  have hq : nums (quoteS v) = quoteN (nums v) := strN_nums _ (quoteN_lt _ (nums_lt v))
  have hp : Piece (quoteS v ++ ⟨#[120]⟩) 0 (quoteN (nums v)) [120] := ⟨Nat.zero_le _, by rw [nums_append, hq]; rfl⟩
  have := unq_back hp (nums_lt v)
  rw [Nat.zero_add, ← hq, nums_length] at this
  exact this

set_option maxRecDepth 100000 in
set_option maxHeartbeats 4000000 in
theorem quotes_walk (v s : ByteArray) (a : Int) (w : World) (hv : v.size ≤ 1048576) (hs : s.size ≤ 1048576) (ha : -9223372036854775808 ≤ a ∧ a ≤ 9223372036854775807) :
    Calls Try.prog 8 #[.string v, .string s, .int .i64 a] w fun e w' => e = .returned (.bool true) ∧ Below w.heap.size w w' := by
  have hw := fun W => wakes_any W
  have h1 := fun W => unquote_any s a (by omega) W
  have h3 := fun W => quote_any v (by omega) W
  have h5 := fun W => refQuote_any v (by omega) W
  have hqz := quoteS_size v
  have g1 : (⟨#[120]⟩ : ByteArray).size = 1 := rfl
  have h4 := fun W => unquote_any (quoteS v ++ ⟨#[120]⟩) 0 (by rw [ByteArray.size_append]; omega) W
  rw [quote_back v] at h4
  simp only [oS, oN, oE] at h4
  rw [nums_strN] at h4
  generalize quoteS v = Q at h3 h4 h5 hqz
  have hqb : Q.size ≤ 4194306 := by omega
  have tq : (Q.toList == Q.toList) = true := str_eq rfl
  have tv : (v.toList == v.toList) = true := str_eq rfl
  have te : ((⟨#[]⟩ : ByteArray).toList == (⟨#[]⟩ : ByteArray).toList) = true := str_eq rfl
  have HW := Lib.hid hw
  have H3 := Lib.hid h3
  have H4 := Lib.hid h4
  have H5 := Lib.hid h5
  clear hw h3 h4 h5 hqz
  by_cases h0 : a < 0
  · have hu : unq s a = none := by unfold unq; rw [if_pos (.inl h0)]
    rw [hu] at h1
    simp only [oS, oN, oE] at h1
    rw [(rfl : ByteArray.empty = ⟨#[]⟩)] at h1
    have H1 := Lib.hid h1
    have h0n : ¬ 0 ≤ a := by omega
    clear h1 hu
    go_enter Try.func8, Try.ntmps8
    go_wp2_with (first
      | (go_at_call 33; ((with_reducible refine (H1.out _).mono ?_); rintro e w1 ⟨rfl, hb1⟩; have B1 := Lib.hid hb1; clear hb1))
      | (go_at_call 35; ((with_reducible refine (H3.out _).mono ?_); rintro e w3 ⟨rfl, hb3⟩; have B3 := Lib.hid (le_below B1.out hb3); clear hb3))
      | (go_at_call 33; ((with_reducible refine (H4.out _).mono ?_); rintro e w4 ⟨rfl, hb4⟩; have B4 := Lib.hid (le_below B3.out hb4); clear hb4))
      | (go_at_call 17; ((with_reducible refine (HW.out _).mono ?_); rintro e w5 ⟨rfl, hb5⟩; have B5 := Lib.hid (le_below B4.out hb5); clear hb5))
      | (go_at_call 36; ((with_reducible refine (H5.out _).mono ?_); rintro e w6 ⟨rfl, hb6⟩; have B6 := Lib.hid (le_below B5.out hb6); clear hb6)))
    go_ret
    exact ⟨by first | rfl | exact ret_bool (by simp), B6.out⟩
  · obtain ⟨b, rfl⟩ := Int.eq_ofNat_of_zero_le (show 0 ≤ a by omega)
    have h2 := fun W => refUnquote_any s b (by omega) (by omega) W
    have h0n : (0 : Int) ≤ (b : Int) := by omega
    cases hu : unq s (b : Int) with
    | none =>
      rw [hu] at h1 h2
      simp only [oS, oN, oE] at h1
      simp only [oS, oM] at h2
      rw [(rfl : ByteArray.empty = ⟨#[]⟩)] at h1 h2
      have H1 := Lib.hid h1
      have H2 := Lib.hid h2
      clear h1 h2 hu
      go_enter Try.func8, Try.ntmps8
      go_wp2_with (first
        | (go_at_call 33; ((with_reducible refine (H1.out _).mono ?_); rintro e w1 ⟨rfl, hb1⟩; have B1 := Lib.hid hb1; clear hb1))
        | (go_at_call 34; ((with_reducible refine (H2.out _).mono ?_); rintro e w2 ⟨rfl, hb2⟩; have B2 := Lib.hid (le_below B1.out hb2); clear hb2))
        | (go_at_call 35; ((with_reducible refine (H3.out _).mono ?_); rintro e w3 ⟨rfl, hb3⟩; have B3 := Lib.hid (le_below B2.out hb3); clear hb3))
        | (go_at_call 33; ((with_reducible refine (H4.out _).mono ?_); rintro e w4 ⟨rfl, hb4⟩; have B4 := Lib.hid (le_below B3.out hb4); clear hb4))
        | (go_at_call 17; ((with_reducible refine (HW.out _).mono ?_); rintro e w5 ⟨rfl, hb5⟩; have B5 := Lib.hid (le_below B4.out hb5); clear hb5))
        | (go_at_call 36; ((with_reducible refine (H5.out _).mono ?_); rintro e w6 ⟨rfl, hb6⟩; have B6 := Lib.hid (le_below B5.out hb6); clear hb6)))
      go_ret
      exact ⟨by first | rfl | exact ret_bool (by simp), B6.out⟩
    | some p =>
      obtain ⟨l, n⟩ := p
      rw [hu] at h1 h2
      simp only [oS, oN, oE] at h1
      simp only [oS, oM] at h2
      generalize strN l = T at h1 h2
      have tt : (T.toList == T.toList) = true := str_eq rfl
      have H1 := Lib.hid h1
      have H2 := Lib.hid h2
      clear h1 h2 hu
      go_enter Try.func8, Try.ntmps8
      go_wp2_with (first
        | (go_at_call 33; ((with_reducible refine (H1.out _).mono ?_); rintro e w1 ⟨rfl, hb1⟩; have B1 := Lib.hid hb1; clear hb1))
        | (go_at_call 34; ((with_reducible refine (H2.out _).mono ?_); rintro e w2 ⟨rfl, hb2⟩; have B2 := Lib.hid (le_below B1.out hb2); clear hb2))
        | (go_at_call 35; ((with_reducible refine (H3.out _).mono ?_); rintro e w3 ⟨rfl, hb3⟩; have B3 := Lib.hid (le_below B2.out hb3); clear hb3))
        | (go_at_call 33; ((with_reducible refine (H4.out _).mono ?_); rintro e w4 ⟨rfl, hb4⟩; have B4 := Lib.hid (le_below B3.out hb4); clear hb4))
        | (go_at_call 17; ((with_reducible refine (HW.out _).mono ?_); rintro e w5 ⟨rfl, hb5⟩; have B5 := Lib.hid (le_below B4.out hb5); clear hb5))
        | (go_at_call 36; ((with_reducible refine (H5.out _).mono ?_); rintro e w6 ⟨rfl, hb6⟩; have B6 := Lib.hid (le_below B5.out hb6); clear hb6)))
      go_ret
      exact ⟨by first | rfl | exact ret_bool (by simp), B6.out⟩
end Go.Proofs.Ytlolhbhanjhkbaa.Lab
