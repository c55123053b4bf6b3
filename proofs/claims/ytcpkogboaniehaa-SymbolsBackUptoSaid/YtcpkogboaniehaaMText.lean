/-
  Texts with their length ahead: contracts of Text and ReadText, of the program and of the document's answer. Own text.
-/
import Derived.Test.YtcpkogboaniehaaMRefR
import Derived.Test.YtcpkogboaniehaaMUint
namespace Go.Proofs.Ytcpkogboaniehaa.Enc
open Go.RowKit Go Go.Proofs.Ytcpkogboaniehaa.Base

/-- a text with its length ahead -/
def textS (s : ByteArray) : ByteArray := uintS s.size ++ s

theorem uintS_size (v : Nat) : 1 ≤ (uintS v).size ∧ (uintS v).size ≤ 10 := by
  unfold uintS
  rw [strN_size]
  exact Var.vl_length 9 v

/-- the error of a text that is read, where the text ends, the text -/
def txE (s : ByteArray) (a : Int) : Nat := if rdE s a ≠ 0 then rdE s a else if s.size - rdN s a < rdV s a then 20 else 0
def txN (s : ByteArray) (a : Int) : Nat := if txE s a = 0 then rdN s a + rdV s a else 0
def txS (s : ByteArray) (a : Int) : ByteArray := if txE s a = 0 then s.extract (rdN s a) (rdN s a + rdV s a) else ByteArray.empty

theorem text_any (s : ByteArray) (hs : s.size ≤ 140737488351232) (w : World) :
    Calls Try.prog 48 #[.string s] w fun e w' => e = .returned (.string (textS s)) ∧ Below w.heap.size w w' := by
  have hz := uintS_size s.size
  have hc : ∀ W : World, Calls Try.prog 37 #[.int .u64 (s.size : Int)] W fun e w' => e = .returned (.string (uintS s.size)) ∧ Below W.heap.size W w' := fun W => uint_any s.size (by omega) W
  have HC := Lib.hid hc
  unfold textS
  generalize uintS s.size = u at *
  clear hc
  go_enter Try.func48, Try.ntmps48
  go_wp2_with (go_at_call 37; refine (HC.out _).mono ?_; rintro e w' ⟨rfl, hB⟩)
  go_ret
  exact ⟨rfl, hB⟩

theorem refText_any (s : ByteArray) (hs : s.size ≤ 140737488351232) (w : World) :
    Calls Try.prog 60 #[.string s] w fun e w' => e = .returned (.string (textS s)) ∧ Below w.heap.size w w' := by
  have hz := uintS_size s.size
  have hc : ∀ W : World, Calls Try.prog 39 #[.int .u64 (s.size : Int)] W fun e w' => e = .returned (.string (uintS s.size)) ∧ Below W.heap.size W w' := fun W => refUint_any s.size (by omega) W
  have HC := Lib.hid hc
  unfold textS
  generalize uintS s.size = u at *
  clear hc
  go_enter Try.func60, Try.ntmps60
  go_wp2_with (go_at_call 39; refine (HC.out _).mono ?_; rintro e w' ⟨rfl, hB⟩)
  go_ret
  exact ⟨rfl, hB⟩

theorem rdN_le (s : ByteArray) (a : Int) : rdN s a ≤ s.size := by
  by_cases h : a < 0 ∨ (s.size : Int) ≤ a
  · rw [rdN_err s a (by rw [rdE_out s a h]; decide)]
    omega
  · obtain ⟨b, rfl⟩ := Int.eq_ofNat_of_zero_le (show 0 ≤ a by omega)
    have hb : b < s.size := by omega
    have hR := reads_of s b hb
    generalize kk s b = k at *
    generalize rdV s b = v at *
    generalize rdN s b = n at *
    generalize rdE s b = e at *
    cases hR with
    | short h => omega
    | bad _ _ => omega
    | good c1 c2 c3 c4 => omega

theorem readText_any (s : ByteArray) (a : Int) (hs : s.size ≤ 140737488351232) (w : World) :
    Calls Try.prog 51 #[.string s, .int .i64 a] w fun e' w' => e' = .returned (.tuple #[.string (txS s a), .int .i64 (txN s a : Int), .int .i64 (txE s a : Int)]) ∧ w = w' := by
  have HC := Lib.hid (readUint_any s a hs)
  have hN := rdN_le s a
  by_cases hE : rdE s a = 0
  · by_cases hlt : s.size - rdN s a < rdV s a
    · have e1 : txE s a = 20 := by unfold txE; rw [if_neg (by omega), if_pos hlt]
      have e2 : txS s a = ByteArray.empty := by unfold txS; rw [if_neg (by omega)]
      have e3 : txN s a = 0 := by unfold txN; rw [if_neg (by omega)]
      rw [e1, e2, e3]
      rw [hE] at HC
      have hlti : (s.size : Int) - (rdN s a : Int) < (rdV s a : Int) := by omega
      clear e1 e2 e3 hE hlt
      generalize rdV s a = V at *
      generalize rdN s a = N at *
      go_enter Try.func51, Try.ntmps51
      go_wp2_with (go_at_call 50; refine (HC.out _).mono ?_; rintro e w' ⟨rfl, rfl⟩)
      go_ret3
      exact ⟨rfl, rfl⟩
    · have e1 : txE s a = 0 := by unfold txE; rw [if_neg (by omega), if_neg hlt]
      have e2 : txS s a = s.extract (rdN s a) (rdN s a + rdV s a) := by unfold txS; rw [if_pos e1]
      have e3 : txN s a = rdN s a + rdV s a := by unfold txN; rw [if_pos e1]
      rw [e1, e2, e3]
      rw [hE] at HC
      have hlti : ¬ (s.size : Int) - (rdN s a : Int) < (rdV s a : Int) := by omega
      clear e1 e2 e3 hE hlt
      generalize rdV s a = V at *
      generalize rdN s a = N at *
      go_enter Try.func51, Try.ntmps51
      go_wp2_with (go_at_call 50; refine (HC.out _).mono ?_; rintro e w' ⟨rfl, rfl⟩)
      go_ret3
      exact ⟨by simp, rfl⟩
  · have e1 : txE s a = rdE s a := by unfold txE; rw [if_pos hE]
    have e2 : txS s a = ByteArray.empty := by unfold txS; rw [if_neg (by omega)]
    have e3 : txN s a = 0 := by unfold txN; rw [if_neg (by omega)]
    rw [e1, e2, e3]
    have hE0 : ((rdE s a : Int) != 0) = true := by simp; omega
    clear e1 e2 e3 hE
    generalize rdV s a = V at *
    generalize rdN s a = N at *
    generalize rdE s a = E at *
    go_enter Try.func51, Try.ntmps51
    go_wp2_with (go_at_call 50; refine (HC.out _).mono ?_; rintro e w' ⟨rfl, rfl⟩)
    go_ret3
    exact ⟨rfl, rfl⟩

end Go.Proofs.Ytcpkogboaniehaa.Enc
