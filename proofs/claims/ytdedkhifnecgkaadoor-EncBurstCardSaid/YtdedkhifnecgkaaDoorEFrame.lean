/-
  Frames: contracts of Frame and Unframe, of the program and of the document's answer. Own text.
-/
import Derived.Test.YtdedkhifnecgkaaDoorESeal
namespace Go.Proofs.YtdedkhifnecgkaaDoor.Enc
open Go.RowKit Go Go.Proofs.YtdedkhifnecgkaaDoor.Base

/-- the error of a payload that is framed, and the frame -/
def frE (p : ByteArray) : Nat := if p.size = 0 then 21 else if 1048576 < p.size then 23 else 0
def frS (p : ByteArray) : ByteArray := if frE p = 0 then strN (Poly.four p.size) ++ sealS p ++ ⟨#[1]⟩ else ByteArray.empty

theorem frS_good (p : ByteArray) (h0 : p.size ≠ 0) (h1 : p.size ≤ 1048576) : frE p = 0 ∧ frS p = strN (Poly.four p.size) ++ sealS p ++ ⟨#[1]⟩ := by
  have e : frE p = 0 := by unfold frE; rw [if_neg h0, if_neg (by omega)]
  exact ⟨e, by unfold frS; rw [if_pos e]⟩

theorem empty_of_size (p : ByteArray) (h : p.size = 0) : p = ByteArray.empty := by
  cases p with
  | mk d =>
    have : d = #[] := Array.eq_empty_of_size_eq_zero h
    subst this
    rfl

theorem not_empty (p : ByteArray) (h : p.size ≠ 0) : p.toList.isEmpty = false := by
  rw [← decide_eq_emptyBytes]
  refine decide_eq_false fun e => h ?_
  rw [e]
  rfl

theorem fourS_size (v : Nat) : (strN (Poly.four v)).size = 4 := by rw [strN_size]; rfl

theorem frame_any (p : ByteArray) (hs : p.size ≤ 140737488351232) (w : World) (hT : Tab w) :
    Calls Tryd.prog 27 #[.string p] w fun e w' => e = .returned (.tuple #[.string (frS p), .int .i64 (frE p : Int)]) ∧ Below w.heap.size w w' := by
  by_cases h0 : p.size = 0
  · obtain rfl := empty_of_size p h0
    clear hT
    go_enter Tryd.func27, Tryd.ntmps27
    go_wp2
    go_ret2
    exact ⟨rfl, Below.refl _ _⟩
  · have hne := not_empty p h0
    by_cases h1 : 1048576 < p.size
    · have h1i : (1048576 : Int) < (p.size : Int) := by omega
      have e1 : frE p = 23 := by unfold frE; rw [if_neg h0, if_pos h1]
      have e2 : frS p = ByteArray.empty := by unfold frS; rw [if_neg (by omega)]
      rw [e1, e2]
      clear e1 e2 hT
      go_enter Tryd.func27, Tryd.ntmps27
      go_wp2
      go_ret2
      exact ⟨rfl, Below.refl _ _⟩
    · have h1i : ¬ (1048576 : Int) < (p.size : Int) := by omega
      obtain ⟨e1, e2⟩ := frS_good p h0 (by omega)
      rw [e1, e2]
      have hz := sealS_size p
      have hz4 := fourS_size p.size
      have HF := Lib.hid fun W : World => four_any p.size (by omega) W
      have HS := Lib.hid fun (W : World) (hT : Tab W) => seal_any p hs W hT
      have HT := Lib.hid hT
      clear e1 e2 hT
      generalize sealS p = u at *
      generalize strN (Poly.four p.size) = f at *
      go_enter Tryd.func27, Tryd.ntmps27
      go_wp2_with (go_at_call 37; refine (HF.out _).mono ?_; rintro e w1 ⟨rfl, hB1⟩)
      have HT1 := Lib.hid (HT.out.below hB1 (Nat.le_refl _))
      go_wp2_with (go_at_call 33; refine (HS.out _ HT1.out).mono ?_; rintro e w2 ⟨rfl, hB2⟩)
      go_ret2
      exact ⟨rfl, below_then hB1 hB2⟩

theorem refFrame_any (p : ByteArray) (hs : p.size ≤ 140737488351232) (w : World) :
    Calls Tryd.prog 28 #[.string p] w fun e w' => e = .returned (.tuple #[.string (frS p), .int .i64 (frE p : Int)]) ∧ Below w.heap.size w w' := by
  by_cases h0 : p.size = 0
  · obtain rfl := empty_of_size p h0
    go_enter Tryd.func28, Tryd.ntmps28
    go_wp2
    go_ret2
    exact ⟨rfl, Below.refl _ _⟩
  · have hne : ((p.size : Int) == 0) = false := by rw [beq_eq_false_iff_ne]; omega
    by_cases h1 : 1048576 < p.size
    · have h1i : (1048576 : Int) < (p.size : Int) := by omega
      have e1 : frE p = 23 := by unfold frE; rw [if_neg h0, if_pos h1]
      have e2 : frS p = ByteArray.empty := by unfold frS; rw [if_neg (by omega)]
      rw [e1, e2]
      clear e1 e2
      go_enter Tryd.func28, Tryd.ntmps28
      go_wp2
      go_ret2
      exact ⟨rfl, Below.refl _ _⟩
    · have h1i : ¬ (1048576 : Int) < (p.size : Int) := by omega
      obtain ⟨e1, e2⟩ := frS_good p h0 (by omega)
      have hz := sumS_size p
      have hz4 := fourS_size p.size
      have hf : ∀ W : World, Calls Tryd.prog 38 #[.int .u32 (Poly.crc (nums p) : Int)] W fun e w' => e = .returned (.string (sumS p)) ∧ Below W.heap.size W w' := fun W => refFour_any _ (crc_lt p) W
      have HF := Lib.hid fun W : World => refFour_any p.size (by omega) W
      have HS := Lib.hid hf
      have HC := Lib.hid (refCrc_any p hs)
      have e3 : strN (Poly.four p.size) ++ sealS p ++ ⟨#[1]⟩ = strN (Poly.four p.size) ++ p ++ sumS p ++ ⟨#[1]⟩ := by unfold sealS; simp only [ByteArray.append_assoc]
      rw [e1, e2, e3]
      clear e1 e2 e3 hf
      generalize sumS p = u at *
      generalize Poly.crc (nums p) = c at *
      generalize strN (Poly.four p.size) = f at *
      go_enter Tryd.func28, Tryd.ntmps28
      go_wp2_with (go_at_call 38; refine (HF.out _).mono ?_; rintro e w1 ⟨rfl, hB1⟩)
      go_wp2_with (go_at_call 26; refine (HC.out _).mono ?_; rintro e w2 ⟨rfl, rfl⟩)
      go_wp2_with (go_at_call 38; refine (HS.out _).mono ?_; rintro e w2 ⟨rfl, hB2⟩)
      go_ret2
      exact ⟨rfl, below_then hB1 hB2⟩

/-- what is read of a frame, case by case: a is the place -/
inductive Fr (s : ByteArray) (a N : Nat) : ByteArray → Nat → Nat → Prop
  | short : s.size < a + 4 → Fr s a N ByteArray.empty 0 20
  | len : a + 4 ≤ s.size → (N = 0 ∨ 1048576 < N) → Fr s a N ByteArray.empty 0 21
  | cut : a + 4 ≤ s.size → 0 < N → N ≤ 1048576 → s.size < a + N + 9 → Fr s a N ByteArray.empty 0 20
  | one : 0 < N → N ≤ 1048576 → a + N + 9 ≤ s.size → at8 s (a + N + 8) ≠ 1 → Fr s a N ByteArray.empty 0 21
  | sum : 0 < N → N ≤ 1048576 → a + N + 9 ≤ s.size → at8 s (a + N + 8) = 1 → num s (a + 4 + N) ≠ Poly.crc (nums (s.extract (a + 4) (a + 4 + N))) → Fr s a N ByteArray.empty 0 22
  | good : 0 < N → N ≤ 1048576 → a + N + 9 ≤ s.size → at8 s (a + N + 8) = 1 → num s (a + 4 + N) = Poly.crc (nums (s.extract (a + 4) (a + 4 + N))) → Fr s a N (s.extract (a + 4) (a + 4 + N)) (a + N + 9) 0

theorem fr_some (s : ByteArray) (a : Nat) : ∃ t n e, Fr s a (num s a) t n e := by
  by_cases h1 : s.size < a + 4
  · exact ⟨_, _, _, .short h1⟩
  · by_cases h2 : num s a = 0 ∨ 1048576 < num s a
    · exact ⟨_, _, _, .len (by omega) h2⟩
    · by_cases h3 : s.size < a + num s a + 9
      · exact ⟨_, _, _, .cut (by omega) (by omega) (by omega) h3⟩
      · by_cases h4 : at8 s (a + num s a + 8) = 1
        · by_cases h5 : num s (a + 4 + num s a) = Poly.crc (nums (s.extract (a + 4) (a + 4 + num s a)))
          · exact ⟨_, _, _, .good (by omega) (by omega) (by omega) h4 h5⟩
          · exact ⟨_, _, _, .sum (by omega) (by omega) (by omega) h4 h5⟩
        · exact ⟨_, _, _, .one (by omega) (by omega) (by omega) h4⟩

/-- the body and its sum, as a sealed text -/
theorem inner (s : ByteArray) (a n : Nat) (h : a + n + 8 ≤ s.size) :
    (s.extract (a + 4) (a + n + 8)).size = n + 4 ∧ num (s.extract (a + 4) (a + n + 8)) n = num s (a + 4 + n) ∧ (s.extract (a + 4) (a + n + 8)).extract 0 n = s.extract (a + 4) (a + 4 + n) := by
  refine ⟨by rw [ByteArray.size_extract]; omega, ?_, ?_⟩
  · rw [num_extract _ _ _ _ (by omega)]
  · apply nums_inj
    rw [nums_extract, nums_extract, nums_extract, List.drop_zero, List.take_take]
    congr 1
    omega

theorem inner_us (s : ByteArray) (a n : Nat) (h : a + n + 8 ≤ s.size) :
    usE (s.extract (a + 4) (a + n + 8)) = (if num s (a + 4 + n) = Poly.crc (nums (s.extract (a + 4) (a + 4 + n))) then 0 else 22) ∧
    usS (s.extract (a + 4) (a + n + 8)) = (if num s (a + 4 + n) = Poly.crc (nums (s.extract (a + 4) (a + 4 + n))) then s.extract (a + 4) (a + 4 + n) else ByteArray.empty) := by
  obtain ⟨h1, h2, h3⟩ := inner s a n h
  have e1 : usE (s.extract (a + 4) (a + n + 8)) = (if num s (a + 4 + n) = Poly.crc (nums (s.extract (a + 4) (a + 4 + n))) then 0 else 22) := by
    unfold usE
    rw [if_neg (by omega), h1, show n + 4 - 4 = n from by omega, h2, h3]
  refine ⟨e1, ?_⟩
  unfold usS
  rw [e1, h1, show n + 4 - 4 = n from by omega, h3]
  by_cases hc : num s (a + 4 + n) = Poly.crc (nums (s.extract (a + 4) (a + 4 + n)))
  · simp [hc]
  · simp [hc]

theorem unframe_neg (s : ByteArray) (a : Int) (ha : a < 0) (w : World) :
    Calls Tryd.prog 29 #[.string s, .int .i64 a] w fun e' w' => e' = .returned (.tuple #[.string ByteArray.empty, .int .i64 0, .int .i64 20]) ∧ Below w.heap.size w w' := by
  go_enter Tryd.func29, Tryd.ntmps29
  go_wp2
  go_ret3
  exact ⟨rfl, Below.refl _ _⟩

theorem unframe_short (s : ByteArray) (a : Nat) (hs : s.size ≤ 140737488351232) (h : s.size < a + 4) (ha : (a : Int) ≤ 9223372036854775807) (w : World) :
    Calls Tryd.prog 29 #[.string s, .int .i64 (a : Int)] w fun e' w' => e' = .returned (.tuple #[.string ByteArray.empty, .int .i64 0, .int .i64 20]) ∧ Below w.heap.size w w' := by
  have hneg : decide ((a : Int) < 0) = false := by simp
  have hi : (s.size : Int) - (a : Int) < 4 := by omega
  have hw : wrap64 ((s.size : Int) - (a : Int)) = (s.size : Int) - (a : Int) := IntWalk.wrap64_in _ (by omega)
  go_enter Tryd.func29, Tryd.ntmps29
  go_wp2
  go_ret3
  exact ⟨rfl, Below.refl _ _⟩

theorem ret_frame {t : ByteArray} {n n' e : Int} (h : n = n') : Ending.returned (.tuple #[.string t, .int .i64 n, .int .i64 e]) = .returned (.tuple #[.string t, .int .i64 n', .int .i64 e]) := by rw [h]

set_option maxHeartbeats 1000000 in
theorem unframe_in (s : ByteArray) (a N : Nat) (t : ByteArray) (n e : Nat) (hs : s.size ≤ 140737488351232) (hN : num s a = N) (hF : Fr s a N t n e) (hsz : a + 4 ≤ s.size) (w : World) (hT : Tab w) :
    Calls Tryd.prog 29 #[.string s, .int .i64 (a : Int)] w fun e' w' => e' = .returned (.tuple #[.string t, .int .i64 (n : Int), .int .i64 (e : Int)]) ∧ Below w.heap.size w w' := by
  have hneg : decide ((a : Int) < 0) = false := by simp
  have hi : ¬ (s.size : Int) - (a : Int) < 4 := by omega
  have hNl : N < 4294967296 := by rw [← hN]; exact num_lt s a
  have hr : ∀ W : World, Calls Tryd.prog 39 #[.string (s.extract a s.size)] W fun e w' => e = .returned (.int .u32 (N : Int)) ∧ ∃ m, w' = W.drewN m := fun W => by
    have h := readFour_any (s.extract a s.size) (by rw [ByteArray.size_extract]; omega) (by rw [ByteArray.size_extract]; omega) W
    rw [num_extract s a s.size 0 (by omega), Nat.add_zero, hN] at h
    exact h
  have HR := Lib.hid hr
  have HT := Lib.hid hT
  have HNL := Lib.hid hNl
  clear hr hT hNl hN
  cases hF with
  | short h => omega
  | len h h2 =>
    by_cases h0 : N = 0
    · subst h0
      clear h2
      go_enter Tryd.func29, Tryd.ntmps29
      go_wp2_with (go_at_call 39; refine (HR.out _).mono ?_; rintro e w' ⟨rfl, m, rfl⟩)
      go_ret3
      exact ⟨rfl, below_drewN (Below.refl _ _) _⟩
    · have h0b : ((N : Int) == 0) = false := by rw [beq_eq_false_iff_ne]; omega
      have h1 : (1048576 : Int) < (N : Int) := by omega
      clear h2
      go_enter Tryd.func29, Tryd.ntmps29
      go_wp2_with (go_at_call 39; refine (HR.out _).mono ?_; rintro e w' ⟨rfl, m, rfl⟩)
      go_ret3
      exact ⟨rfl, below_drewN (Below.refl _ _) _⟩
  | cut h h0 h1 h2 =>
    have h0b : ((N : Int) == 0) = false := by rw [beq_eq_false_iff_ne]; omega
    have h1i : ¬ (1048576 : Int) < (N : Int) := by omega
    have h2i : (s.size : Int) ≤ (a : Int) + 4 + (N : Int) + 4 := by omega
    go_enter Tryd.func29, Tryd.ntmps29
    go_wp2_with (go_at_call 39; refine (HR.out _).mono ?_; rintro e w' ⟨rfl, m, rfl⟩)
    go_ret3
    exact ⟨rfl, below_drewN (Below.refl _ _) _⟩
  | one h0 h1 h2 h3 =>
    have h0b : ((N : Int) == 0) = false := by rw [beq_eq_false_iff_ne]; omega
    have h1i : ¬ (1048576 : Int) < (N : Int) := by omega
    have h2i : ¬ (s.size : Int) ≤ (a : Int) + 4 + (N : Int) + 4 := by omega
    have hin : a + 4 + N + 4 < s.size := by omega
    obtain ⟨b, hb⟩ : ∃ b, (s[a + 4 + N + 4]'hin).toNat = b := ⟨_, rfl⟩
    have h3b : ((b : Int) != 1) = true := by
      rw [show a + N + 8 = a + 4 + N + 4 from by omega, at8_eq s _ hin, hb] at h3
      rw [bne_iff_ne]
      omega
    clear h3
    go_enter Tryd.func29, Tryd.ntmps29
    go_wp2_with (go_at_call 39; refine (HR.out _).mono ?_; rintro e w' ⟨rfl, m, rfl⟩)
    go_ret3
    exact ⟨rfl, below_drewN (Below.refl _ _) _⟩
  | sum h0 h1 h2 h3 h4 =>
    have h0b : ((N : Int) == 0) = false := by rw [beq_eq_false_iff_ne]; omega
    have h1i : ¬ (1048576 : Int) < (N : Int) := by omega
    have h2i : ¬ (s.size : Int) ≤ (a : Int) + 4 + (N : Int) + 4 := by omega
    have hin : a + 4 + N + 4 < s.size := by omega
    have hb : (s[a + 4 + N + 4]'hin).toNat = 1 := by
      rw [← at8_eq s _ hin, show a + 4 + N + 4 = a + N + 8 from by omega, h3]
    obtain ⟨u1, u2⟩ := inner_us s a N (by omega)
    rw [if_neg h4] at u1 u2
    rw [show a + N + 8 = a + 4 + N + 4 from by omega] at u1 u2
    have hu : ∀ W : World, Tab W → Calls Tryd.prog 31 #[.string (s.extract (a + 4) (a + 4 + N + 4))] W fun e w' => e = .returned (.tuple #[.string ByteArray.empty, .int .i64 22]) ∧ Below W.heap.size W w' := fun W hW => by
      have h := unseal_any (s.extract (a + 4) (a + 4 + N + 4)) (by rw [ByteArray.size_extract]; omega) W hW
      rw [u1, u2] at h
      exact h
    have HU := Lib.hid hu
    clear hu u1 u2 h3 h4
    go_enter Tryd.func29, Tryd.ntmps29
    go_wp2_with (go_at_call 39; refine (HR.out _).mono ?_; rintro e w' ⟨rfl, m, rfl⟩)
    have HT1 := Lib.hid (HT.out.drewN m)
    go_wp2_with (go_at_call 31; refine (HU.out _ HT1.out).mono ?_; rintro e w2 ⟨rfl, hB2⟩)
    go_ret3
    exact ⟨rfl, below_then (below_drewN (Below.refl _ _) m) hB2⟩
  | good h0 h1 h2 h3 h4 =>
    have h0b : ((N : Int) == 0) = false := by rw [beq_eq_false_iff_ne]; omega
    have h1i : ¬ (1048576 : Int) < (N : Int) := by omega
    have h2i : ¬ (s.size : Int) ≤ (a : Int) + 4 + (N : Int) + 4 := by omega
    have hin : a + 4 + N + 4 < s.size := by omega
    have hb : (s[a + 4 + N + 4]'hin).toNat = 1 := by
      rw [← at8_eq s _ hin, show a + 4 + N + 4 = a + N + 8 from by omega, h3]
    obtain ⟨u1, u2⟩ := inner_us s a N (by omega)
    rw [if_pos h4] at u1 u2
    rw [show a + N + 8 = a + 4 + N + 4 from by omega] at u1 u2
    have hu : ∀ W : World, Tab W → Calls Tryd.prog 31 #[.string (s.extract (a + 4) (a + 4 + N + 4))] W fun e w' => e = .returned (.tuple #[.string (s.extract (a + 4) (a + 4 + N)), .int .i64 0]) ∧ Below W.heap.size W w' := fun W hW => by
      have h := unseal_any (s.extract (a + 4) (a + 4 + N + 4)) (by rw [ByteArray.size_extract]; omega) W hW
      rw [u1, u2] at h
      exact h
    have HU := Lib.hid hu
    clear hu u1 u2 h3 h4
    go_enter Tryd.func29, Tryd.ntmps29
    go_wp2_with (go_at_call 39; refine (HR.out _).mono ?_; rintro e w' ⟨rfl, m, rfl⟩)
    have HT1 := Lib.hid (HT.out.drewN m)
    go_wp2_with (go_at_call 31; refine (HU.out _ HT1.out).mono ?_; rintro e w2 ⟨rfl, hB2⟩)
    go_ret3
    exact ⟨ret_frame (by omega), below_then (below_drewN (Below.refl _ _) m) hB2⟩
end Go.Proofs.YtdedkhifnecgkaaDoor.Enc
