/-
  Frames that are read: contract of the document's answer. Own text.
-/
import Derived.Test.YtdedkhifnecgkaaDoorEFrame
namespace Go.Proofs.YtdedkhifnecgkaaDoor.Enc
open Go.RowKit Go Go.Proofs.YtdedkhifnecgkaaDoor.Base

theorem refUnframe_neg (s : ByteArray) (a : Int) (ha : a < 0) (w : World) :
    Calls Tryd.prog 30 #[.string s, .int .i64 a] w fun e' w' => e' = .returned (.tuple #[.string ByteArray.empty, .int .i64 0, .int .i64 20]) ∧ Below w.heap.size w w' := by
  go_enter Tryd.func30, Tryd.ntmps30
  go_wp2
  go_ret3
  exact ⟨rfl, Below.refl _ _⟩

theorem refUnframe_short (s : ByteArray) (a : Nat) (h : s.size < a + 4) (w : World) :
    Calls Tryd.prog 30 #[.string s, .int .i64 (a : Int)] w fun e' w' => e' = .returned (.tuple #[.string ByteArray.empty, .int .i64 0, .int .i64 20]) ∧ Below w.heap.size w w' := by
  have hneg : decide ((a : Int) < 0) = false := by simp
  by_cases hge : s.size ≤ a
  · have hd : decide (s.size ≤ a) = true := by simp [hge]
    go_enter Tryd.func30, Tryd.ntmps30
    go_wp2
    go_ret3
    exact ⟨rfl, Below.refl _ _⟩
  · have hd : decide (s.size ≤ a) = false := by simp; omega
    have hi : (s.size : Int) - (a : Int) < 4 := by omega
    go_enter Tryd.func30, Tryd.ntmps30
    go_wp2
    go_ret3
    exact ⟨rfl, Below.refl _ _⟩

set_option maxHeartbeats 1000000 in
theorem refUnframe_in (s : ByteArray) (a N : Nat) (t : ByteArray) (n e : Nat) (hs : s.size ≤ 140737488351232) (hN : num s a = N) (hF : Fr s a N t n e) (hsz : a + 4 ≤ s.size) (w : World) :
    Calls Tryd.prog 30 #[.string s, .int .i64 (a : Int)] w fun e' w' => e' = .returned (.tuple #[.string t, .int .i64 (n : Int), .int .i64 (e : Int)]) ∧ Below w.heap.size w w' := by
  have hneg : decide ((a : Int) < 0) = false := by simp
  have hd : decide (s.size ≤ a) = false := by simp; omega
  have hi : ¬ (s.size : Int) - (a : Int) < 4 := by omega
  have hNl : N < 4294967296 := by rw [← hN]; exact num_lt s a
  have hr : ∀ W : World, Calls Tryd.prog 40 #[.string s, .int .i64 (a : Int)] W fun e w' => e = .returned (.int .i64 (N : Int)) ∧ ∃ m, w' = W.drewN m := fun W => by
    have h := refNumber_any s a hsz hs W
    rw [hN] at h
    exact h
  have HR := Lib.hid hr
  clear hr hN
  cases hF with
  | short h => omega
  | len h h2 =>
    by_cases h0 : N = 0
    · subst h0
      clear h2
      go_enter Tryd.func30, Tryd.ntmps30
      go_wp2_with (go_at_call 40; refine (HR.out _).mono ?_; rintro e w' ⟨rfl, m, rfl⟩)
      go_ret3
      exact ⟨rfl, below_drewN (Below.refl _ _) _⟩
    · have h0b : ((N : Int) == 0) = false := by rw [beq_eq_false_iff_ne]; omega
      have h1 : (1048576 : Int) < (N : Int) := by omega
      clear h2
      go_enter Tryd.func30, Tryd.ntmps30
      go_wp2_with (go_at_call 40; refine (HR.out _).mono ?_; rintro e w' ⟨rfl, m, rfl⟩)
      go_ret3
      exact ⟨rfl, below_drewN (Below.refl _ _) _⟩
  | cut h h0 h1 h2 =>
    have h0b : ((N : Int) == 0) = false := by rw [beq_eq_false_iff_ne]; omega
    have h1i : ¬ (1048576 : Int) < (N : Int) := by omega
    have h2i : (s.size : Int) - (a : Int) - 9 < (N : Int) := by omega
    go_enter Tryd.func30, Tryd.ntmps30
    go_wp2_with (go_at_call 40; refine (HR.out _).mono ?_; rintro e w' ⟨rfl, m, rfl⟩)
    go_ret3
    exact ⟨rfl, below_drewN (Below.refl _ _) _⟩
  | one h0 h1 h2 h3 =>
    have h0b : ((N : Int) == 0) = false := by rw [beq_eq_false_iff_ne]; omega
    have h1i : ¬ (1048576 : Int) < (N : Int) := by omega
    have h2i : ¬ (s.size : Int) - (a : Int) - 9 < (N : Int) := by omega
    have hin : a + 8 + N < s.size := by omega
    obtain ⟨b, hb⟩ : ∃ b, (s[a + 8 + N]'hin).toNat = b := ⟨_, rfl⟩
    have h3b : ((b : Int) != 1) = true := by
      rw [show a + N + 8 = a + 8 + N from by omega, at8_eq s _ hin, hb] at h3
      rw [bne_iff_ne]
      omega
    clear h3
    go_enter Tryd.func30, Tryd.ntmps30
    go_wp2_with (go_at_call 40; refine (HR.out _).mono ?_; rintro e w' ⟨rfl, m, rfl⟩)
    go_ret3
    exact ⟨rfl, below_drewN (Below.refl _ _) _⟩
  | sum h0 h1 h2 h3 h4 =>
    have h0b : ((N : Int) == 0) = false := by rw [beq_eq_false_iff_ne]; omega
    have h1i : ¬ (1048576 : Int) < (N : Int) := by omega
    have h2i : ¬ (s.size : Int) - (a : Int) - 9 < (N : Int) := by omega
    have hin : a + 8 + N < s.size := by omega
    have hb : (s[a + 8 + N]'hin).toNat = 1 := by
      rw [← at8_eq s _ hin, show a + 8 + N = a + N + 8 from by omega, h3]
    obtain ⟨X, hX⟩ : ∃ X, num s (a + 4 + N) = X := ⟨_, rfl⟩
    obtain ⟨C, hC⟩ : ∃ C, Poly.crc (nums (s.extract (a + 4) (a + 4 + N))) = C := ⟨_, rfl⟩
    have hCl : C < 4294967296 := by rw [← hC]; exact crc_lt _
    rw [hX, hC] at h4
    have h4b : ((C : Int) != (X : Int)) = true := by
      rw [bne_iff_ne]; omega
    have hm : ∀ W : World, Calls Tryd.prog 40 #[.string s, .int .i64 ((a : Int) + 4 + (N : Int))] W fun e w' => e = .returned (.int .i64 (X : Int)) ∧ ∃ m, w' = W.drewN m := fun W => by
      have h := refNumber_any s (a + 4 + N) (by omega) hs W
      rw [hX, show ((a + 4 + N : Nat) : Int) = (a : Int) + 4 + (N : Int) from by omega] at h
      exact h
    have hc : ∀ W : World, Calls Tryd.prog 26 #[.string (s.extract (a + 4) (a + 4 + N))] W fun e w' => e = .returned (.int .u32 (C : Int)) ∧ W = w' := fun W => by
      have h := refCrc_any (s.extract (a + 4) (a + 4 + N)) (by rw [ByteArray.size_extract]; omega) W
      rw [hC] at h
      exact h
    have HM := Lib.hid hm
    have HC := Lib.hid hc
    clear hm hc hX hC h3 h4
    go_enter Tryd.func30, Tryd.ntmps30
    go_wp2_with (go_at_call 40; refine (HR.out _).mono ?_; rintro e w' ⟨rfl, m, rfl⟩)
    go_wp2_with (go_at_call 26; refine (HC.out _).mono ?_; rintro e w' ⟨rfl, rfl⟩)
    go_wp2_with (go_at_call 40; refine (HM.out _).mono ?_; rintro e w' ⟨rfl, m2, rfl⟩)
    go_ret3
    exact ⟨rfl, below_drewN (Below.refl _ _) _⟩
  | good h0 h1 h2 h3 h4 =>
    have h0b : ((N : Int) == 0) = false := by rw [beq_eq_false_iff_ne]; omega
    have h1i : ¬ (1048576 : Int) < (N : Int) := by omega
    have h2i : ¬ (s.size : Int) - (a : Int) - 9 < (N : Int) := by omega
    have hin : a + 8 + N < s.size := by omega
    have hb : (s[a + 8 + N]'hin).toNat = 1 := by
      rw [← at8_eq s _ hin, show a + 8 + N = a + N + 8 from by omega, h3]
    obtain ⟨X, hX⟩ : ∃ X, num s (a + 4 + N) = X := ⟨_, rfl⟩
    obtain ⟨C, hC⟩ : ∃ C, Poly.crc (nums (s.extract (a + 4) (a + 4 + N))) = C := ⟨_, rfl⟩
    have hCl : C < 4294967296 := by rw [← hC]; exact crc_lt _
    rw [hX, hC] at h4
    have h4b : ((C : Int) != (X : Int)) = false := by
      rw [h4]; exact bne_self_eq_false _
    have hm : ∀ W : World, Calls Tryd.prog 40 #[.string s, .int .i64 ((a : Int) + 4 + (N : Int))] W fun e w' => e = .returned (.int .i64 (X : Int)) ∧ ∃ m, w' = W.drewN m := fun W => by
      have h := refNumber_any s (a + 4 + N) (by omega) hs W
      rw [hX, show ((a + 4 + N : Nat) : Int) = (a : Int) + 4 + (N : Int) from by omega] at h
      exact h
    have hc : ∀ W : World, Calls Tryd.prog 26 #[.string (s.extract (a + 4) (a + 4 + N))] W fun e w' => e = .returned (.int .u32 (C : Int)) ∧ W = w' := fun W => by
      have h := refCrc_any (s.extract (a + 4) (a + 4 + N)) (by rw [ByteArray.size_extract]; omega) W
      rw [hC] at h
      exact h
    have HM := Lib.hid hm
    have HC := Lib.hid hc
    clear hm hc hX hC h3 h4
    go_enter Tryd.func30, Tryd.ntmps30
    go_wp2_with (go_at_call 40; refine (HR.out _).mono ?_; rintro e w' ⟨rfl, m, rfl⟩)
    go_wp2_with (go_at_call 26; refine (HC.out _).mono ?_; rintro e w' ⟨rfl, rfl⟩)
    go_wp2_with (go_at_call 40; refine (HM.out _).mono ?_; rintro e w' ⟨rfl, m2, rfl⟩)
    go_ret3
    exact ⟨ret_frame (by omega), below_drewN (Below.refl _ _) _⟩
end Go.Proofs.YtdedkhifnecgkaaDoor.Enc
