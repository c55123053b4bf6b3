/-
  Plain facts on numbers as rows of bits and of bytes (most significant first). Nothing of the program. Own text.
-/
import Derived.KernelRfl
namespace Go.Proofs.Ytmenhgdedllioaa.Num

/-- k bytes of M, the most significant first -/
def toB : Nat → Nat → List Nat
  | 0, _ => []
  | k + 1, M => toB k (M / 256) ++ [M % 256]

theorem toB_length (k M : Nat) : (toB k M).length = k := by
  induction k generalizing M with
  | zero => rfl
  | succ k ih => simp [toB, ih]

theorem toB_lt (k M : Nat) : ∀ x ∈ toB k M, x < 256 := by
  induction k generalizing M with
  | zero => intro x hx; cases hx
  | succ k ih =>
    intro x hx
    simp only [toB, List.mem_append, List.mem_singleton] at hx
    rcases hx with h | h
    · exact ih _ x h
    · subst h; exact Nat.mod_lt _ (by decide)

theorem toB_get (k M i : Nat) (h : i < k) : (toB k M)[i]? = some (M / 256 ^ (k - 1 - i) % 256) := by
  induction k generalizing M with
  | zero => omega
  | succ k ih =>
    simp only [toB]
    by_cases hi : i < k
    · rw [List.getElem?_append_left (by rw [toB_length]; exact hi), ih _ hi, Nat.div_div_eq_div_mul]
      have e : k + 1 - 1 - i = (k - 1 - i) + 1 := by omega
      rw [e, Nat.pow_succ, Nat.mul_comm 256]
    · have hik : i = k := by omega
      subst hik
      rw [List.getElem?_append_right (by rw [toB_length]; exact Nat.le_refl _), toB_length]
      simp

/-- the number that bytes write -/
def ofB (l : List Nat) : Nat := l.foldl (fun a b => a * 256 + b) 0

theorem ofB_snoc (l : List Nat) (b : Nat) : ofB (l ++ [b]) = ofB l * 256 + b := by simp [ofB]

theorem ofB_lt (l : List Nat) (h : ∀ x ∈ l, x < 256) : ofB l < 256 ^ l.length := by
  suffices H : ∀ m : List Nat, (∀ x ∈ m, x < 256) → ofB m.reverse < 256 ^ m.length by
    have := H l.reverse (fun x hx => h x (by simpa using hx))
    simpa using this
  intro m
  induction m with
  | nil => intro _; simp [ofB]
  | cons b m ih =>
    intro h
    rw [List.reverse_cons, ofB_snoc, List.length_cons, Nat.pow_succ]
    have h1 := ih (fun x hx => h x (List.mem_cons_of_mem _ hx))
    have h2 := h b (List.mem_cons_self)
    omega

theorem toB_ofB (l : List Nat) (h : ∀ x ∈ l, x < 256) : toB l.length (ofB l) = l := by
  suffices H : ∀ m : List Nat, (∀ x ∈ m, x < 256) → toB m.length (ofB m.reverse) = m.reverse by
    have := H l.reverse (fun x hx => h x (by simpa using hx))
    simpa using this
  intro m
  induction m with
  | nil => intro _; rfl
  | cons b m ih =>
    intro h
    rw [List.reverse_cons, ofB_snoc, List.length_cons, toB]
    have h2 := h b (List.mem_cons_self)
    have e1 : (ofB m.reverse * 256 + b) / 256 = ofB m.reverse := by omega
    have e2 : (ofB m.reverse * 256 + b) % 256 = b := by omega
    rw [e1, e2, ih (fun x hx => h x (List.mem_cons_of_mem _ hx))]

theorem ofB_toB (k M : Nat) : ofB (toB k M) = M % 256 ^ k := by
  induction k generalizing M with
  | zero => simp [toB, ofB, Nat.mod_one]
  | succ k ih =>
    rw [toB, ofB_snoc, ih, Nat.pow_succ, Nat.mul_comm (256 ^ k) 256, Nat.mod_mul]
    omega

/-- a byte of the bytes of l, as a cut of the number -/
theorem ofB_get (l : List Nat) (h : ∀ x ∈ l, x < 256) (i : Nat) (hi : i < l.length) : l[i]? = some (ofB l / 256 ^ (l.length - 1 - i) % 256) := by
  conv => lhs; rw [← toB_ofB l h]
  exact toB_get _ _ _ hi

theorem pow256 (k : Nat) : 256 ^ k = 2 ^ (8 * k) := by
  rw [show (256 : Nat) = 2 ^ 8 from rfl, ← Nat.pow_mul]

theorem two_pos (k : Nat) : 0 < 2 ^ k := Nat.pow_pos (by decide)

/-- n bits behind N: the low n bits of v -/
def putN (N v n : Nat) : Nat := N * 2 ^ n + v % 2 ^ n

theorem putN_zero (N v : Nat) : putN N v 0 = N := by simp [putN, Nat.mod_one]

theorem mod_split (v a b : Nat) : v % 2 ^ (a + b) = v / 2 ^ b % 2 ^ a * 2 ^ b + v % 2 ^ b := by
  rw [Nat.add_comm a b, Nat.pow_add, Nat.mod_mul, Nat.mul_comm (2 ^ b)]; omega

/-- a number written in two pieces is the number written at once -/
theorem putN_split (N v a b : Nat) : putN (putN N (v / 2 ^ b) a) v b = putN N v (a + b) := by
  unfold putN
  rw [mod_split v a b, Nat.pow_add, Nat.add_mul, Nat.mul_assoc]; omega

theorem putN_lt (N v n c : Nat) (h : N < 2 ^ c) : putN N v n < 2 ^ (c + n) := by
  unfold putN
  have h1 := Nat.mod_lt v (two_pos n)
  have h2 : (N + 1) * 2 ^ n ≤ 2 ^ c * 2 ^ n := Nat.mul_le_mul_right _ h
  rw [Nat.pow_add]
  rw [Nat.add_mul] at h2
  omega

theorem putN_top (N v n : Nat) : putN N v n / 2 ^ n = N := by
  unfold putN
  rw [Nat.mul_comm, Nat.mul_add_div (two_pos n), Nat.div_eq_of_lt (Nat.mod_lt _ (two_pos n))]; rfl

theorem putN_low (N v n : Nat) : putN N v n % 2 ^ n = v % 2 ^ n := by
  unfold putN
  rw [Nat.mul_comm, Nat.mul_add_mod, Nat.mod_mod]

/-- the bytes of c bits that write N: filled up with zeros -/
def nb (c : Nat) : Nat := (c + 7) / 8
def packB (N c : Nat) : List Nat := toB (nb c) (N * 2 ^ (8 * nb c - c))

theorem packB_length (N c : Nat) : (packB N c).length = nb c := toB_length _ _
theorem packB_lt (N c : Nat) : ∀ x ∈ packB N c, x < 256 := toB_lt _ _

/-- the bytes with room for the next bit: the last one has 8 - c % 8 free bits -/
def padB (N c : Nat) : List Nat := toB (c / 8 + 1) (N * 2 ^ (8 - c % 8))

theorem padB_length (N c : Nat) : (padB N c).length = c / 8 + 1 := toB_length _ _
theorem padB_lt (N c : Nat) : ∀ x ∈ padB N c, x < 256 := toB_lt _ _

theorem padB_full (N c : Nat) (h : c % 8 = 0) : padB N c = packB N c ++ [0] := by
  have e : nb c = c / 8 := by unfold nb; omega
  unfold padB packB
  rw [e, h, toB, show 8 * (c / 8) - c = 0 from by omega, Nat.pow_zero, Nat.mul_one, show 2 ^ (8 - 0) = 256 from rfl, Nat.mul_div_cancel _ (by decide), Nat.mul_mod_left]

theorem padB_part (N c : Nat) (h : c % 8 ≠ 0) : padB N c = packB N c := by
  have e : nb c = c / 8 + 1 := by unfold nb; omega
  unfold padB packB
  rw [e, show 8 * (c / 8 + 1) - c = 8 - c % 8 from by omega]

/-- the last byte, as it stands -/
def lastB (N c : Nat) : Nat := N * 2 ^ (8 - c % 8) % 256

theorem lastB_lt (N c : Nat) : lastB N c < 256 := Nat.mod_lt _ (by decide)

theorem padB_last (N c : Nat) : padB N c = (padB N c).take (c / 8) ++ [lastB N c] := by
  unfold padB lastB
  rw [toB, List.take_append_of_le_length (by rw [toB_length]; exact Nat.le_refl _), List.take_of_length_le (by rw [toB_length]; exact Nat.le_refl _)]

theorem padB_get (N c : Nat) : (padB N c)[c / 8]? = some (lastB N c) := by
  rw [padB, toB_get _ _ _ (by omega)]
  simp [lastB]

theorem two_pow_8 (e : Nat) (h : e ≤ 8) : 2 ^ (8 - e) * 2 ^ e = 256 := by
  rw [← Nat.pow_add, show 8 - e + e = 8 from by omega]

/-- m more bits, s, that fit into the last byte -/
theorem packB_step (N c m s : Nat) (hm : 1 ≤ m) (hu : c % 8 + m ≤ 8) (hs : s < 2 ^ m) :
    packB (N * 2 ^ m + s) (c + m) = (padB N c).set (c / 8) (lastB N c ||| s * 2 ^ (8 - c % 8 - m)) := by
  have e : nb (c + m) = c / 8 + 1 := by unfold nb; omega
  have e2 : 8 * (c / 8 + 1) - (c + m) = 8 - c % 8 - m := by omega
  have hp : 2 ^ m * 2 ^ (8 - c % 8 - m) = 2 ^ (8 - c % 8) := by rw [← Nat.pow_add, show m + (8 - c % 8 - m) = 8 - c % 8 from by omega]
  have hsm : s * 2 ^ (8 - c % 8 - m) < 2 ^ (8 - c % 8) := by rw [← hp]; exact (Nat.mul_lt_mul_right (two_pos _)).2 hs
  have hM : (N * 2 ^ m + s) * 2 ^ (8 - c % 8 - m) = N * 2 ^ (8 - c % 8) + s * 2 ^ (8 - c % 8 - m) := by rw [Nat.add_mul, Nat.mul_assoc, hp]
  have h256 : 2 ^ (8 - c % 8) * 2 ^ (c % 8) = 256 := two_pow_8 _ (by omega)
  unfold packB padB lastB
  rw [e, e2, hM, toB, toB, List.set_append_right _ _ (by rw [toB_length]; exact Nat.le_refl _), toB_length, Nat.sub_self]
  generalize hA : 2 ^ (8 - c % 8) = A at *
  generalize hB : 2 ^ (c % 8) = B at *
  generalize hS : s * 2 ^ (8 - c % 8 - m) = S at *
  have hd : N * A / 256 = N / B := by rw [← h256, Nat.mul_comm A B, Nat.mul_div_mul_right _ _ (by rw [← hA]; exact two_pos _)]
  have hmd : N * A % 256 = N % B * A := by rw [← h256, Nat.mul_comm A B, Nat.mul_mod_mul_right]
  have hdm := Nat.div_add_mod N B
  have hNA : N * A = N / B * 256 + N % B * A := by
    conv => lhs; rw [← hdm]
    rw [Nat.add_mul, ← h256, Nat.mul_comm B, Nat.mul_assoc, Nat.mul_comm B A]
  have hlt : N % B * A + S < 256 := by
    have h1 : N % B + 1 ≤ B := Nat.mod_lt _ (by rw [← hB]; exact two_pos _)
    have h2 : (N % B + 1) * A ≤ B * A := Nat.mul_le_mul_right _ h1
    rw [Nat.mul_comm B A, h256, Nat.add_mul] at h2
    omega
  have f1 : (N * A + S) / 256 = N * A / 256 := by rw [hd]; omega
  have f2 : (N * A + S) % 256 = N % B * A + S := by omega
  have hor : N % B * A ||| S = N % B * A + S := by
    rw [← hA, Nat.mul_comm, ← Nat.two_pow_add_eq_or_of_lt (by rw [hA]; exact hsm)]
  rw [f1, f2, hmd, hor]
  rfl

/-- m bits of the bytes' number T (len bytes), from bit a on, that lie in one byte -/
theorem cut_byte (T len a m : Nat) (ha : a / 8 < len) (hu : a % 8 + m ≤ 8) :
    T / 2 ^ (8 * len - a - m) % 2 ^ m = T / 256 ^ (len - 1 - a / 8) % 256 / 2 ^ (8 - a % 8 - m) % 2 ^ m := by
  have e : 8 * len - a - m = 8 * (len - 1 - a / 8) + (8 - a % 8 - m) := by omega
  rw [e, Nat.pow_add, ← Nat.div_div_eq_div_mul, ← pow256]
  generalize T / 256 ^ (len - 1 - a / 8) = X
  have e8 : (256 : Nat) = 2 ^ (8 - a % 8 - m) * (2 ^ m * 2 ^ (a % 8)) := by
    rw [← Nat.pow_add, ← Nat.pow_add, show 8 - a % 8 - m + (m + a % 8) = 8 from by omega]
  rw [e8, Nat.mod_mul_right_div_self, Nat.mod_mul_right_mod]

/-- k + m bits are k bits and m bits -/
theorem cut_more (T e k m : Nat) : T / 2 ^ e % 2 ^ (k + m) = T / 2 ^ (e + m) % 2 ^ k * 2 ^ m + T / 2 ^ e % 2 ^ m := by
  rw [mod_split, Nat.pow_add, Nat.div_div_eq_div_mul]

end Go.Proofs.Ytmenhgdedllioaa.Num
