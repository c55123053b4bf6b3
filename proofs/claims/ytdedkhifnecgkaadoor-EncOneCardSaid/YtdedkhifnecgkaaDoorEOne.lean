/-
  The law EncOne: its walk. Own text.
-/
import Derived.Test.YtdedkhifnecgkaaDoorEWakes
import Derived.Lib.QuietBelow
namespace Go.Proofs.YtdedkhifnecgkaaDoor.Enc
open Go.RowKit Go Go.Sort Go.Proofs.YtdedkhifnecgkaaDoor.Base

theorem nums_cut (s : ByteArray) (b k : Nat) (h : b + k ≤ s.size) : ((nums s).drop b).take k = (List.range k).map fun i => at8 s (b + i) := by
  apply List.ext_getElem?
  intro i
  rw [List.getElem?_take, List.getElem?_map]
  by_cases hi : i < k
  · rw [if_pos hi, List.getElem?_drop, List.getElem?_range hi, Option.map_some, nums_at s (b + i) (by omega), at8_eq s (b + i) (by omega)]
  · rw [if_neg hi, List.getElem?_eq_none (by simp; omega)]
    rfl

/-- bytes that are read as a number are the one form of it -/
theorem one_form (s : ByteArray) (b : Nat) (hb : b < s.size) (h : rdE s (b : Int) = 0) : b < rdN s (b : Int) ∧ rdN s (b : Int) ≤ s.size ∧ s.extract b (rdN s (b : Int)) = uintS (rdV s (b : Int)) := by
  obtain ⟨h1, h2, h3⟩ := kk_spec s b hb
  have hR := reads_of s b hb
  generalize kk s b = k at *
  generalize rdV s b = v at *
  generalize rdN s b = n at *
  generalize rdE s b = e at *
  cases hR with
  | short _ => cases h
  | bad _ _ => cases h
  | good c1 c2 c3 c4 =>
    refine ⟨by omega, by omega, ?_⟩
    have hg : Var.Good (at8 s) b k := ⟨fun i hi => ⟨h3 i hi, at8_lt _ _⟩, c2, c4⟩
    unfold uintS
    rw [Var.vl_val 9 (at8 s) b k h1 hg, ← nums_cut s b (k + 1) (by omega)]
    rw [← nums_strN (s.extract b (b + k + 1)), nums_extract, show b + k + 1 - b = k + 1 from by omega]

set_option maxHeartbeats 2000000 in
set_option maxRecDepth 100000 in
theorem one_walk (s : ByteArray) (a : Int) (w : World) (hs : s.size ≤ 140737488351232) (hT : Tab w) :
    Calls Tryd.prog 10 #[.string s, .int .i64 a] w fun e w' => e = .returned (.bool true) ∧ Below w.heap.size w w' := by
  have h1 := readUint_any s a hs
  have h2 := readInt_any s a hs
  have H3 := Lib.hid wakes_any
  have HT := Lib.hid hT
  by_cases hE : rdE s a = 0
  · have h0 : 0 ≤ a ∧ a < (s.size : Int) := by
      by_cases h : a < 0 ∨ (s.size : Int) ≤ a
      · rw [rdE_out s a h] at hE
        cases hE
      · omega
    obtain ⟨b, rfl⟩ := Int.eq_ofNat_of_zero_le h0.1
    obtain ⟨f1, f2, f3⟩ := one_form s b (by omega) hE
    have hV := rdV_lt s (b : Int)
    have hu : ∀ W : World, Calls Tryd.prog 15 #[.int .u64 (rdV s (b : Int) : Int)] W fun e w' => e = .returned (.string (uintS (rdV s (b : Int)))) ∧ Below W.heap.size W w' := fun W => uint_any _ hV W
    have hun : -9223372036854775808 ≤ un (rdV s (b : Int)) ∧ un (rdV s (b : Int)) ≤ 9223372036854775807 := by
      unfold un; split <;> omega
    have hi : ∀ W : World, Calls Tryd.prog 19 #[.int .i64 (un (rdV s (b : Int)))] W fun e w' => e = .returned (.string (uintS (rdV s (b : Int)))) ∧ Below W.heap.size W w' := fun W => by
      have h := int_any _ hun.1 hun.2 W
      rw [zz_un] at h
      exact h
    rw [hE] at h1 h2
    have HU := Lib.hid hu
    have HI := Lib.hid hi
    have H1 := Lib.hid h1
    have H2 := Lib.hid h2
    clear hT h0 hE hV hun hu hi h1 h2
    generalize un (rdV s (b : Int)) = r at *
    generalize uintS (rdV s (b : Int)) = u at *
    generalize rdV s (b : Int) = v at *
    generalize rdN s (b : Int) = n at *
    have g1 : (b : Int) < (n : Int) := by omega
    have g2 : (n : Int) ≤ (s.size : Int) := by omega
    have g3 : (b : Int) ≤ (n : Int) := by omega
    go_enter Tryd.func10, Tryd.ntmps10
    go_wp2_with (go_at_call 12; refine (H1.out _).mono ?_; rintro e w1 ⟨rfl, rfl⟩)
    go_wp2_with (go_at_call 17; refine (H2.out _).mono ?_; rintro e w1 ⟨rfl, rfl⟩)
    go_upto_region 5 with (fail)
    have cW : ∀ d os, Calls Tryd.prog 14 #[] (grow (redrawn w d) os) fun e w'' => e = .returned (.bool true) ∧ ∃ p : Regrown, w'' = grow (redrawn w p.d) p.os := fun d os => Calls.regrown_of (H3.out _ (HT.out.below (below_regrown w d os) (Nat.le_refl _)))
    have cU : ∀ d os, Calls Tryd.prog 15 #[.int .u64 (v : Int)] (grow (redrawn w d) os) fun e w'' => e = .returned (.string u) ∧ ∃ p : Regrown, w'' = grow (redrawn w p.d) p.os := fun d os => Calls.regrown_of (HU.out _)
    have cI : ∀ d os, Calls Tryd.prog 19 #[.int .i64 r] (grow (redrawn w d) os) fun e w'' => e = .returned (.string u) ∧ ∃ p : Regrown, w'' = grow (redrawn w p.d) p.os := fun d os => Calls.regrown_of (HI.out _)
    have CW := Lib.hid cW
    have CU := Lib.hid cU
    have CI := Lib.hid cI
    clear cW cU cI
    refine wp_region_quiet_below (by kernel_rfl) (by kernel_rfl) ?_
    repeat (quiet_step (first | exact CW.out _ _ | exact CU.out _ _ | exact CI.out _ _))
    refine wpQuiet_nil ?_
    intro _ hw'
    obtain ⟨⟨dq, osq⟩, hw''⟩ := hw'
    subst hw''
    go_wp2
    go_ret
    exact ⟨rfl, below_regrown w dq osq⟩
  · have hE0 : ((rdE s a : Int) != 0) = true := by rw [bne_iff_ne]; omega
    rw [rdV_err s a hE, rdN_err s a hE] at h1 h2
    have h2' : ∀ w : World, Calls Tryd.prog 17 #[.string s, .int .i64 a] w fun e' w' => e' = .returned (.tuple #[.int .i64 0, .int .i64 0, .int .i64 (rdE s a : Int)]) ∧ w = w' := h2
    have h1' : ∀ w : World, Calls Tryd.prog 12 #[.string s, .int .i64 a] w fun e' w' => e' = .returned (.tuple #[.int .u64 0, .int .i64 0, .int .i64 (rdE s a : Int)]) ∧ w = w' := h1
    have H1 := Lib.hid h1'
    have H2 := Lib.hid h2'
    clear hT hE h1 h2 h1' h2'
    generalize rdE s a = k at *
    go_enter Tryd.func10, Tryd.ntmps10
    go_wp2_with (go_at_call 12; refine (H1.out _).mono ?_; rintro e w1 ⟨rfl, rfl⟩)
    go_wp2_with (go_at_call 17; refine (H2.out _).mono ?_; rintro e w1 ⟨rfl, rfl⟩)
    go_wp2_with (go_at_call 14; refine (H3.out _ HT.out).mono ?_; rintro e w1 ⟨rfl, h1⟩)
    go_ret
    exact ⟨rfl, h1⟩
end Go.Proofs.YtdedkhifnecgkaaDoor.Enc
