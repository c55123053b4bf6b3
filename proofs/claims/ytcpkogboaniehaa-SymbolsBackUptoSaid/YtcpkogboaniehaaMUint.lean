/-
  Numbers as bytes: contracts of Uint, of the program and of the document's answer. Own text.
-/
import Derived.Test.YtcpkogboaniehaaBase
import Derived.Test.YtcpkogboaniehaaVar
namespace Go.Proofs.Ytcpkogboaniehaa.Enc
open Go.RowKit Go Go.Proofs.Ytcpkogboaniehaa.Base

/-- the text of a number -/
def uintS (v : Nat) : ByteArray := strN (Var.vl 9 v)

theorem or_128 (y : Nat) : bits BinOp.or IntKind.u8 ((y : Int) % 256) 128 = ((y % 128 + 128 : Nat) : Int) := by
  rw [show (y : Int) % 256 = ((y % 256 : Nat) : Int) from by omega, show (128 : Int) = ((128 : Nat) : Int) from rfl, u8_or_nat _ _ (by omega) (by decide)]
  congr 1
  have h1 := Nat.two_pow_add_eq_or_of_lt (i := 7) (b := y % 128) (by omega) 1
  have h2 : y % 256 ||| 128 = 2 ^ 7 * 1 ||| y % 128 := by
    rw [Nat.or_comm]
    apply Nat.eq_of_testBit_eq
    intro i
    rw [Nat.testBit_or, Nat.testBit_or, Nat.mul_one, show (256 : Nat) = 2 ^ 8 from rfl, Nat.testBit_mod_two_pow, show y % 128 = y % 2 ^ 7 from rfl, Nat.testBit_mod_two_pow, show (128 : Nat) = 2 ^ 7 from rfl, Nat.testBit_two_pow]
    by_cases h : 7 = i
    · simp [h]
    · by_cases h3 : i < 7
      · simp [h, h3, show i < 8 from by omega]
      · simp [h, h3, show ¬ i < 8 from by omega]
  rw [h2, ← h1]
  omega

theorem made8 (w : World) (B n : Nat) (hB : B ≤ w.heap.size) (hn : n ≤ 1024) :
    ∃ w', (Instr.makeSlice 85 (.int .i64 0) (.int .i64 (n : Int))).run Try.prog w = .ok (.slice (some ⟨w.heap.size, 0, none⟩) 0 n) w' ∧
      w'.ownsRow B 5 1 (.slice (some ⟨w.heap.size, 0, none⟩) 0 n) 0 [] ∧ w.grownBy w' none := by
  obtain ⟨i0, hi, hz0, hz1, hz2⟩ := info_parts info8
  exact run_make_own (P := Try.prog) w B 85 5 i0 (.int .u8 0) 1 Try.underlying85 hi hz0 hz1 .i64 .i64 n (by rw [hz2]; omega) (by unfold maxLen; omega) hB

set_option maxHeartbeats 400000 in
set_option maxRecDepth 100000 in
theorem uint_any (x : Nat) (hx : x < 18446744073709551616) (w : World) :
    Calls Try.prog 37 #[.int .u64 (x : Int)] w fun e w' => e = .returned (.string (uintS x)) ∧ Below w.heap.size w w' := by
  obtain ⟨i0, hi, hz0, hz1, hz2⟩ := info_parts info8
  obtain ⟨wm, hrun, hown, hgrow⟩ := made8 w w.heap.size 10 (Nat.le_refl _) (by decide)
  have hrun' : (Instr.makeSlice 85 (.int .i64 0) (.int .i64 10)).run Try.prog w = .ok (.slice (some ⟨w.heap.size, 0, none⟩) 0 10) wm := hrun
  have hB0 : Below w.heap.size w wm := (Below.refl _ _).grown hgrow (Nat.le_refl _) (fun k hk => by cases hk)
  have hp : x < 128 ^ (9 + 1) := Nat.lt_of_lt_of_le hx (by decide)
  have HP := Lib.hid hp
  clear hrun hgrow hp
  go_enter Try.func37, Try.ntmps37
  go_wp2_with fail
  go_loopg [0, 3] 9 (fun r y d wr => ∃ (z n : Nat) (D : List Nat), Hid (n + r = 9) ∧ n ≤ 9 ∧ y = .int .u64 (z : Int) ∧ z < 18446744073709551616 ∧ Hid (z < 128 ^ (r + 1)) ∧ Hid (D ++ Var.vl r z = Var.vl 9 x) ∧ wr.ownsRow w.heap.size 5 1 d n (u8s D) ∧ Below w.heap.size w wr)
  case atStart => exact ⟨x, 0, [], rfl, by omega, rfl, hx, HP, rfl, hown, hB0⟩
  case round =>
    obtain ⟨z, n, D, hE, hn, rfl, hz, HZ, HD, hO, hB⟩ := hrel
    have hsz := hB.size
    have HZL := Lib.hid hz
    clear hx hown hB0 hrun' hz
    by_cases hlt : 128 ≤ z
    · have hlti : (128 : Int) ≤ (z : Int) := by omega
      have hor := or_128 z
      obtain ⟨b, hb⟩ : ∃ b, b = z % 128 + 128 := ⟨_, rfl⟩
      rw [← hb] at hor
      have HB := Lib.hid hb
      clear hb
      have hr1 : 1 ≤ gk := by
        rcases Nat.eq_zero_or_pos gk with h | h
        · have := HZ.out
          rw [h] at this
          omega
        · exact h
      go_wp2_with (at_builtin; refine wpList_append_own_at _ rfl (.tmp 9) (.tmp 13) 85 rfl w.heap.size 5 i0 (.int .u8 0) 1 1 Try.underlying85 hi hz0 hz1 hz2 rfl (by decide) _ _ _ rfl (hO.alloc _) ⟨wr.heap.size, 0, none⟩ 1 1 [.int .u8 (b : Int)] rfl rfl (cell_one_new _ _ _) (by intro u hu; simp at hu; subst hu; rfl) ?c3 ?c4 ?c5 ?_)
      case c3 => unfold maxLen; omega
      case c4 => omega
      case c5 => first | omega | (simp; omega)
      intro v' w1 hO1 hgrow _ _
      have hB1 : Below w.heap.size w w1 := (hB.alloc hsz _).grown hgrow (by simp; omega) (fun k hk => (hO.lt k hk).1)
      clear hor
      go_wp2
      go_roundg (gk - 1)
      case measure => omega
      case rel =>
        refine ⟨z / 128, n + 1, D ++ [b], by have := hE.out; show _ = _; omega, by have := hE.out; omega, by go_num, by have := HZL.out; omega, ?_, ?_, ?_, hB1⟩
        · show _ < _
          have := HZ.out
          rw [show gk - 1 + 1 = gk from by omega]
          rw [Nat.pow_succ] at this
          exact Nat.div_lt_of_lt_mul (by rw [Nat.mul_comm]; exact this)
        · show _ = _
          rw [← HD.out, show Var.vl gk z = b :: Var.vl (gk - 1) (z / 128) from by rw [show gk = gk - 1 + 1 from by omega, Var.vl_more _ _ (by omega), HB.out, Nat.add_sub_cancel]]
          simp
        · rw [u8s_append]
          exact hO1
    · have hl8 : z < 128 := by omega
      have hlti : ¬ (128 : Int) ≤ (z : Int) := by omega
      have hmod : (z : Int) % 256 = (z : Int) := by omega
      have HM := Lib.hid hmod
      clear hmod
      go_wp2_with (at_builtin; refine wpList_append_own_at _ rfl (.tmp 15) (.tmp 18) 85 rfl w.heap.size 5 i0 (.int .u8 0) 1 1 Try.underlying85 hi hz0 hz1 hz2 rfl (by decide) _ _ _ rfl (hO.alloc _) ⟨wr.heap.size, 0, none⟩ 1 1 [.int .u8 (z : Int)] rfl rfl (cell_one_new _ _ _) (by intro u hu; simp at hu; subst hu; rfl) ?c3 ?c4 ?c5 ?_)
      case c3 => unfold maxLen; omega
      case c4 => omega
      case c5 => first | omega | (simp; omega)
      intro v' w1 hO1 hgrow _ _
      have hB1 : Below w.heap.size w w1 := (hB.alloc hsz _).grown hgrow (by simp; omega) (fun k hk => (hO.lt k hk).1)
      have hO2 : w1.ownsRow w.heap.size 5 1 v' (n + 1) (u8s (Var.vl 9 x)) := by
        rw [← HD.out, Var.vl_small _ _ hl8, u8s_append]
        exact hO1
      have hconv := conv_own hO2
      clear hO1 hO2 hgrow
      go_wp2
      go_ret
      exact ⟨rfl, hB1⟩

set_option maxRecDepth 100000 in
theorem refUint_any (x : Nat) (hx : x < 18446744073709551616) (w : World) :
    Calls Try.prog 39 #[.int .u64 (x : Int)] w fun e w' => e = .returned (.string (uintS x)) ∧ Below w.heap.size w w' := by
  obtain ⟨i0, hi, hz0, hz1, hz2⟩ := info_parts info8
  have hown : (w.alloc (.cells #[] 5)).ownsRow w.heap.size 5 1 (.slice (some ⟨w.heap.size, 0, none⟩) 0 0) 0 [] := World.ownsRow_made w #[] 0 (Nat.le_refl _) (by unfold maxLen; omega) rfl
  have hB0 := below_alloc w (.cells #[] 5)
  have hp : x < 128 ^ (9 + 1) := Nat.lt_of_lt_of_le hx (by decide)
  have HP := Lib.hid hp
  clear hp
  go_enter Try.func39, Try.ntmps39
  go_wp2_with fail
  go_loopg [0, 3] 9 (fun r y d wr => ∃ (z n : Nat) (D : List Nat), Hid (n + r = 9) ∧ n ≤ 9 ∧ y = .int .u64 (z : Int) ∧ z < 18446744073709551616 ∧ Hid (z < 128 ^ (r + 1)) ∧ Hid (D ++ Var.vl r z = Var.vl 9 x) ∧ wr.ownsRow w.heap.size 5 1 d n (u8s D) ∧ Below w.heap.size w wr)
  case atStart => exact ⟨x, 0, [], rfl, by omega, rfl, hx, HP, rfl, hown, hB0⟩
  case round =>
    obtain ⟨z, n, D, hE, hn, rfl, hz, HZ, HD, hO, hB⟩ := hrel
    have hsz := hB.size
    clear hx hown hB0
    by_cases hlt : 127 < z
    · have hor : ((z : Int) % 128 + 128) = ((z % 128 + 128 : Nat) : Int) := by omega
      obtain ⟨b, hb⟩ : ∃ b, b = z % 128 + 128 := ⟨_, rfl⟩
      rw [← hb] at hor
      have HB := Lib.hid hb
      clear hb
      have hr1 : 1 ≤ gk := by
        rcases Nat.eq_zero_or_pos gk with h | h
        · have := HZ.out
          rw [h] at this
          omega
        · exact h
      go_wp2_with (at_builtin; refine wpList_append_own_at _ rfl (.tmp 7) (.tmp 12) 85 rfl w.heap.size 5 i0 (.int .u8 0) 1 1 Try.underlying85 hi hz0 hz1 hz2 rfl (by decide) _ _ _ rfl (hO.alloc _) ⟨wr.heap.size, 0, none⟩ 1 1 [.int .u8 (b : Int)] rfl rfl (cell_one_new _ _ _) (by intro u hu; simp at hu; subst hu; rfl) ?c3 ?c4 ?c5 ?_)
      case c3 => unfold maxLen; omega
      case c4 => omega
      case c5 => first | omega | (simp; omega)
      intro v' w1 hO1 hgrow _ _
      have hB1 : Below w.heap.size w w1 := (hB.alloc hsz _).grown hgrow (by simp; omega) (fun k hk => (hO.lt k hk).1)
      clear hor
      go_wp2
      go_roundg (gk - 1)
      case measure => omega
      case rel =>
        refine ⟨z / 128, n + 1, D ++ [b], by have := hE.out; show _ = _; omega, by have := hE.out; omega, by go_num, by omega, ?_, ?_, ?_, hB1⟩
        · show _ < _
          have := HZ.out
          rw [show gk - 1 + 1 = gk from by omega]
          rw [Nat.pow_succ] at this
          exact Nat.div_lt_of_lt_mul (by rw [Nat.mul_comm]; exact this)
        · show _ = _
          rw [← HD.out, show Var.vl gk z = b :: Var.vl (gk - 1) (z / 128) from by rw [show gk = gk - 1 + 1 from by omega, Var.vl_more _ _ (by omega), HB.out, Nat.add_sub_cancel]]
          simp
        · rw [u8s_append]
          exact hO1
    · have hl8 : z < 128 := by omega
      go_wp2_with (at_builtin; refine wpList_append_own_at _ rfl (.tmp 16) (.tmp 19) 85 rfl w.heap.size 5 i0 (.int .u8 0) 1 1 Try.underlying85 hi hz0 hz1 hz2 rfl (by decide) _ _ _ rfl (hO.alloc _) ⟨wr.heap.size, 0, none⟩ 1 1 [.int .u8 (z : Int)] rfl rfl (cell_one_new _ _ _) (by intro u hu; simp at hu; subst hu; rfl) ?c3 ?c4 ?c5 ?_)
      case c3 => unfold maxLen; omega
      case c4 => omega
      case c5 => first | omega | (simp; omega)
      intro v' w1 hO1 hgrow _ _
      have hB1 : Below w.heap.size w w1 := (hB.alloc hsz _).grown hgrow (by simp; omega) (fun k hk => (hO.lt k hk).1)
      have hO2 : w1.ownsRow w.heap.size 5 1 v' (n + 1) (u8s (Var.vl 9 x)) := by
        rw [← HD.out, Var.vl_small _ _ hl8, u8s_append]
        exact hO1
      have hconv := conv_own hO2
      clear hO1 hO2 hgrow
      go_wp2
      go_ret
      exact ⟨rfl, hB1⟩
end Go.Proofs.Ytcpkogboaniehaa.Enc
