/-
  Numbers in base 128: the digits, the lowest first; what a row of digits says; that no two rows say the same. Nothing of the program. Own text.
-/
import Derived.KernelRfl
namespace Go.Proofs.Ytcpkogboaniehaa.Var

/-- the digits of v, at most f + 1 of them -/
def vl : Nat → Nat → List Nat
  | 0, v => [v]
  | f + 1, v => if v < 128 then [v] else (v % 128 + 128) :: vl f (v / 128)

theorem vl_small (f v : Nat) (h : v < 128) : vl f v = [v] := by
  cases f with
  | zero => rfl
  | succ f => rw [vl, if_pos h]
theorem vl_more (f v : Nat) (h : ¬ v < 128) : vl (f + 1) v = (v % 128 + 128) :: vl f (v / 128) := by rw [vl, if_neg h]

theorem vl_length (f v : Nat) : 1 ≤ (vl f v).length ∧ (vl f v).length ≤ f + 1 := by
  induction f generalizing v with
  | zero => simp [vl]
  | succ f ih =>
    rw [vl]
    split
    · simp
    · have := ih (v / 128)
      simp only [List.length_cons]
      omega

theorem vl_lt (f v : Nat) (h : v < 128 ^ (f + 1)) : ∀ x ∈ vl f v, x < 256 := by
  induction f generalizing v with
  | zero =>
    intro x hx
    simp only [vl, List.mem_singleton] at hx
    simp at h
    omega
  | succ f ih =>
    intro x hx
    rw [vl] at hx
    split at hx
    · simp only [List.mem_singleton] at hx
      omega
    · rcases List.mem_cons.1 hx with h1 | h1
      · omega
      · refine ih (v / 128) ?_ x h1
        rw [Nat.pow_succ] at h
        exact Nat.div_lt_of_lt_mul (by rw [Nat.mul_comm]; exact h)

/-- what k digits from place a on say -/
def val (at' : Nat → Nat) (a : Nat) : Nat → Nat
  | 0 => 0
  | k + 1 => val at' a k + at' (a + k) % 128 * 128 ^ k

theorem val_lt (at' : Nat → Nat) (a k : Nat) : val at' a k < 128 ^ k := by
  induction k with
  | zero => simp [val]
  | succ k ih =>
    rw [val, Nat.pow_succ]
    have h1 : at' (a + k) % 128 ≤ 127 := by omega
    have h2 : at' (a + k) % 128 * 128 ^ k ≤ 127 * 128 ^ k := Nat.mul_le_mul_right _ h1
    omega

theorem val_front (at' : Nat → Nat) (a k : Nat) : val at' a (k + 1) = at' a % 128 + 128 * val at' (a + 1) k := by
  induction k with
  | zero => simp [val]
  | succ k ih =>
    rw [val, ih, val, Nat.mul_add, Nat.pow_succ, show a + 1 + k = a + (k + 1) from by omega]
    generalize at' (a + (k + 1)) % 128 = d
    have : d * (128 ^ k * 128) = 128 * (d * 128 ^ k) := by rw [← Nat.mul_assoc, Nat.mul_comm]
    omega

/-- a row that reads as a number: digits with 128 added, a last one without, no superfluous 0 -/
structure Good (at' : Nat → Nat) (a k : Nat) : Prop where
  more : ∀ i, i < k → 128 ≤ at' (a + i) ∧ at' (a + i) < 256
  last : at' (a + k) < 128
  none : k = 0 ∨ at' (a + k) ≠ 0

/-- the row is the one form of its number -/
theorem vl_val (f : Nat) (at' : Nat → Nat) (a k : Nat) (hk : k ≤ f) (h : Good at' a k) : vl f (val at' a (k + 1)) = (List.range (k + 1)).map fun i => at' (a + i) := by
  induction k generalizing f a with
  | zero =>
    have := h.last
    rw [vl_small _ _ (by simp [val]; omega)]
    simp only [val, Nat.add_zero, Nat.pow_zero, Nat.mul_one, Nat.zero_add]
    rw [Nat.mod_eq_of_lt (by simpa using h.last)]
    simp
  | succ k ih =>
    obtain ⟨f, rfl⟩ : ∃ g, f = g + 1 := ⟨f - 1, by omega⟩
    have h0 := h.more 0 (by omega)
    have hg : Good at' (a + 1) k := ⟨fun i hi => by have := h.more (i + 1) (by omega); rwa [show a + (i + 1) = a + 1 + i from by omega] at this,
      by have := h.last; rwa [show a + (k + 1) = a + 1 + k from by omega] at this,
      .inr (by rcases h.none with h | h
               · omega
               · rwa [show a + (k + 1) = a + 1 + k from by omega] at h)⟩
    have hv := val_front at' a (k + 1)
    have hpos : 1 ≤ val at' (a + 1) (k + 1) := by
      rw [val]
      have h1 := hg.last
      have h2 : at' (a + 1 + k) ≠ 0 := by
        rcases h.none with h | h
        · omega
        · rwa [show a + (k + 1) = a + 1 + k from by omega] at h
      have h3 : 1 ≤ at' (a + 1 + k) % 128 := by omega
      have h4 : 1 * 1 ≤ at' (a + 1 + k) % 128 * 128 ^ k := Nat.mul_le_mul h3 (Nat.pow_pos (by decide))
      omega
    simp only [Nat.add_zero] at h0
    rw [vl_more _ _ (by omega), hv, show (at' a % 128 + 128 * val at' (a + 1) (k + 1)) / 128 = val at' (a + 1) (k + 1) from by omega, ih f (a + 1) (by omega) hg,
      show (at' a % 128 + 128 * val at' (a + 1) (k + 1)) % 128 + 128 = at' a from by omega, List.range_succ_eq_map (n := k + 1), List.map_cons, List.map_map, Nat.add_zero]
    congr 1
    apply List.map_congr_left
    intro i _
    simp only [Function.comp, Nat.succ_eq_add_one]
    rw [show a + 1 + i = a + (i + 1) from by omega]

/-- the digits of a number read as that number -/
theorem vl_good (f : Nat) (v : Nat) (hv : v < 128 ^ (f + 1)) (at' : Nat → Nat) (a : Nat) (h : ∀ i, i < (vl f v).length → at' (a + i) = (vl f v).getD i 0) :
    Good at' a ((vl f v).length - 1) ∧ val at' a (vl f v).length = v := by
  induction f generalizing v a with
  | zero =>
    have h0 := h 0 (by simp [vl])
    simp only [vl, Nat.add_zero] at h0
    simp at hv h0
    simp only [vl, List.length_singleton, Nat.sub_self]
    refine ⟨⟨fun i hi => by omega, by simp; omega, .inl rfl⟩, ?_⟩
    simp [val, h0]
    omega
  | succ f ih =>
    by_cases hs : v < 128
    · rw [vl_small _ _ hs] at h ⊢
      have h0 := h 0 (by simp)
      simp only [Nat.add_zero] at h0
      simp at h0
      simp only [List.length_singleton, Nat.sub_self]
      refine ⟨⟨fun i hi => by omega, by simp; omega, .inl rfl⟩, ?_⟩
      simp [val, h0]
      omega
    · rw [vl_more _ _ hs] at h ⊢
      have hd : v / 128 < 128 ^ (f + 1) := by
        rw [Nat.pow_succ] at hv
        exact Nat.div_lt_of_lt_mul (by rw [Nat.mul_comm]; exact hv)
      have h0 := h 0 (by simp)
      simp only [Nat.add_zero] at h0
      simp at h0
      obtain ⟨hg, hx⟩ := ih (v / 128) hd (a + 1) (fun i hi => by
        have := h (i + 1) (by simp; omega)
        rw [show a + (i + 1) = a + 1 + i from by omega] at this
        simpa using this)
      have hl := (vl_length f (v / 128)).1
      simp only [List.length_cons, Nat.add_sub_cancel]
      refine ⟨⟨?_, ?_, ?_⟩, ?_⟩
      · intro i hi
        by_cases hz : i = 0
        · subst hz
          rw [Nat.add_zero, h0]
          omega
        · have := hg.more (i - 1) (by omega)
          rwa [show a + 1 + (i - 1) = a + i from by omega] at this
      · have := hg.last
        rwa [show a + 1 + ((vl f (v / 128)).length - 1) = a + (vl f (v / 128)).length from by omega] at this
      · refine .inr ?_
        rcases hg.none with hk | hk
        · have hl1 : (vl f (v / 128)).length = 1 := by omega
          rw [hl1] at hx ⊢
          simp only [val] at hx
          intro hz
          rw [show a + 1 + 0 = a + 1 from rfl, hz] at hx
          omega
        · rwa [show a + 1 + ((vl f (v / 128)).length - 1) = a + (vl f (v / 128)).length from by omega] at hk
      · rw [val_front, hx, h0]
        omega

theorem val_split (at' : Nat → Nat) (a j m : Nat) : val at' a (j + m) = val at' a j + 128 ^ j * val at' (a + j) m := by
  induction m with
  | zero => simp [val]
  | succ m ih =>
    rw [← Nat.add_assoc, val, ih, val, Nat.mul_add, Nat.pow_add, Nat.add_assoc a j m]
    have : at' (a + (j + m)) % 128 * (128 ^ j * 128 ^ m) = 128 ^ j * (at' (a + (j + m)) % 128 * 128 ^ m) := Nat.mul_left_comm _ _ _
    omega

theorem val_64 (at' : Nat → Nat) (a k : Nat) (h : k < 9 ∨ k = 9 ∧ at' (a + k) % 128 ≤ 1) : val at' a (k + 1) < 18446744073709551616 := by
  rcases h with h | ⟨h, h1⟩
  · exact Nat.lt_of_lt_of_le (val_lt at' a (k + 1)) (Nat.le_trans (Nat.pow_le_pow_right (by decide) (by omega : k + 1 ≤ 9)) (by decide))
  · subst h
    have := val_lt at' a 9
    rw [val]
    have h2 : at' (a + 9) % 128 * 128 ^ 9 ≤ 1 * 128 ^ 9 := Nat.mul_le_mul_right _ h1
    omega

/-- what is read from the top down stays small -/
theorem val_tail (at' : Nat → Nat) (a j m : Nat) : val at' (a + j) m ≤ val at' a (j + m) := by
  rw [val_split]
  have : 1 * val at' (a + j) m ≤ 128 ^ j * val at' (a + j) m := Nat.mul_le_mul_right _ (Nat.pow_pos (by decide))
  omega

end Go.Proofs.Ytcpkogboaniehaa.Var
