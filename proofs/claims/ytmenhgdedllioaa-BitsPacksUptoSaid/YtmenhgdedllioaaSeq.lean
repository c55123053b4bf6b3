/-
  Fields one behind the other: the number and the count of bits behind each; what is read again. Own text.
-/
import Derived.Test.YtmenhgdedllioaaBytes
namespace Go.Proofs.Ytmenhgdedllioaa.Bits
open Go.RowKit Go

/-- the number that the first k fields write -/
def numOf (V N : Nat → Int) : Nat → Nat
  | 0 => 0
  | k + 1 => Num.putN (numOf V N k) (V k).toNat (wide (N k))
/-- how many bits the first k fields write -/
def cntOf (N : Nat → Int) : Nat → Nat
  | 0 => 0
  | k + 1 => cntOf N k + wide (N k)

theorem cntOf_le (N : Nat → Int) (k : Nat) : cntOf N k ≤ 64 * k := by
  induction k with
  | zero => simp [cntOf]
  | succ k ih => have := wide_le (N k); simp only [cntOf]; omega

theorem cntOf_mono (N : Nat → Int) (j k : Nat) (h : j ≤ k) : cntOf N j ≤ cntOf N k := by
  induction k with
  | zero => obtain rfl : j = 0 := by omega
            exact Nat.le_refl _
  | succ k ih =>
    rcases Nat.lt_or_ge j (k + 1) with hlt | hge
    · have := ih (by omega); simp only [cntOf]; omega
    · obtain rfl : j = k + 1 := by omega
      exact Nat.le_refl _

theorem numOf_lt (V N : Nat → Int) (k : Nat) : numOf V N k < 2 ^ cntOf N k := by
  induction k with
  | zero => simp [numOf, cntOf]
  | succ k ih => exact Num.putN_lt _ _ _ _ ih

theorem numOf_top (V N : Nat → Int) (j k : Nat) (h : j ≤ k) : numOf V N k / 2 ^ (cntOf N k - cntOf N j) = numOf V N j := by
  induction k with
  | zero => obtain rfl : j = 0 := by omega
            simp
  | succ k ih =>
    rcases Nat.lt_or_ge j (k + 1) with hlt | hge
    · have hm := cntOf_mono N j k (by omega)
      have e : cntOf N (k + 1) - cntOf N j = wide (N k) + (cntOf N k - cntOf N j) := by simp only [cntOf]; omega
      rw [e, Nat.pow_add, ← Nat.div_div_eq_div_mul]
      simp only [numOf]
      rw [Num.putN_top, ih (by omega)]
    · obtain rfl : j = k + 1 := by omega
      simp

/-- the text that len fields write -/
def textOf (V N : Nat → Int) (len : Nat) : ByteArray := strN (Num.packB (numOf V N len) (cntOf N len))

theorem textOf_size (V N : Nat → Int) (len : Nat) : (textOf V N len).size = Num.nb (cntOf N len) := by unfold textOf; rw [strN_size, Num.packB_length]

theorem textOf_room (V N : Nat → Int) (len : Nat) : cntOf N len ≤ 8 * (textOf V N len).size ∧ 8 * (textOf V N len).size < cntOf N len + 8 := by
  rw [textOf_size]; unfold Num.nb; omega

theorem textOf_num (V N : Nat → Int) (len : Nat) : Num.ofB (nums (textOf V N len)) = numOf V N len * 2 ^ (8 * (textOf V N len).size - cntOf N len) := by
  have hr := textOf_room V N len
  rw [textOf_size] at hr ⊢
  unfold textOf
  rw [strN_nums _ (Num.packB_lt _ _)]
  unfold Num.packB
  rw [Num.ofB_toB, Num.pow256]
  refine Nat.mod_eq_of_lt ?_
  have h1 := numOf_lt V N len
  have h2 : numOf V N len * 2 ^ (8 * Num.nb (cntOf N len) - cntOf N len) < 2 ^ cntOf N len * 2 ^ (8 * Num.nb (cntOf N len) - cntOf N len) := (Nat.mul_lt_mul_right (Num.two_pos _)).2 h1
  rw [← Nat.pow_add, show cntOf N len + (8 * Num.nb (cntOf N len) - cntOf N len) = 8 * Num.nb (cntOf N len) from by omega] at h2
  exact h2

/-- what a field's bits read as -/
theorem cut_field (V N : Nat → Int) (len j : Nat) (hj : j < len) : cut (textOf V N len) (cntOf N j) (wide (N j)) = (V j).toNat % 2 ^ wide (N j) := by
  have hm := cntOf_mono N (j + 1) len (by omega)
  have hc : cntOf N (j + 1) = cntOf N j + wide (N j) := rfl
  have hr := textOf_room V N len
  unfold cut
  rw [textOf_num, show 8 * (textOf V N len).size - cntOf N j - wide (N j) = (8 * (textOf V N len).size - cntOf N len) + (cntOf N len - cntOf N (j + 1)) from by omega,
    Nat.pow_add, ← Nat.div_div_eq_div_mul, Nat.mul_div_cancel _ (Num.two_pos _), numOf_top V N (j + 1) len (by omega)]
  simp only [numOf]
  exact Num.putN_low _ _ _

/-- the bits behind the fields -/
theorem cut_rest (V N : Nat → Int) (len : Nat) : cut (textOf V N len) (cntOf N len) (8 * (textOf V N len).size - cntOf N len) = 0 := by
  unfold cut
  rw [textOf_num, Nat.sub_self, Nat.pow_zero, Nat.div_one, Nat.mul_mod_left]

/-- a number's low bits, as the law writes them -/
theorem wide_small (n : Nat) (h : n < 64) : wide (n : Int) = n := by unfold wide; omega
theorem wide_neg (n : Int) (h : n < 0) : wide n = 0 := by unfold wide; omega
theorem wide_big (n : Int) (h : 64 ≤ n) : wide n = 64 := by unfold wide; omega

end Go.Proofs.Ytmenhgdedllioaa.Bits
