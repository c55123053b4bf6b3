/-
  Lists of bits (0 and 1), the number that a piece of them writes (places behind the end count as 0). Own text; nothing of the program.
-/
import Derived.Test.YtmenhgdedllioaaNum
namespace Go.Proofs.Ytmenhgdedllioaa.Num

/-- the number that t bits from place i on write -/
def seg (L : List Nat) (i : Nat) : Nat → Nat
  | 0 => 0
  | t + 1 => seg L i t * 2 + L.getD (i + t) 0

/-- k bits of x, the most significant first -/
def bitsL : Nat → Nat → List Nat
  | 0, _ => []
  | k + 1, x => bitsL k (x / 2) ++ [x % 2]

def IsBits (L : List Nat) : Prop := ∀ k, L.getD k 0 ≤ 1

theorem bitsL_length (k x : Nat) : (bitsL k x).length = k := by
  induction k generalizing x with
  | zero => rfl
  | succ k ih => simp [bitsL, ih]

theorem bitsL_le (k x : Nat) : ∀ b ∈ bitsL k x, b ≤ 1 := by
  induction k generalizing x with
  | zero => intro b hb; cases hb
  | succ k ih =>
    intro b hb
    simp only [bitsL, List.mem_append, List.mem_singleton] at hb
    rcases hb with h | h
    · exact ih _ b h
    · omega

theorem seg_lt (L : List Nat) (h : IsBits L) (i t : Nat) : seg L i t < 2 ^ t := by
  induction t with
  | zero => simp [seg]
  | succ t ih =>
    have := h (i + t)
    rw [Nat.pow_succ]
    simp only [seg]
    omega

theorem seg_add (L : List Nat) (i s t : Nat) : seg L i (s + t) = seg L i s * 2 ^ t + seg L (i + s) t := by
  induction t with
  | zero => simp [seg]
  | succ t ih =>
    rw [← Nat.add_assoc, seg, ih, seg, Nat.pow_succ, Nat.add_assoc, Nat.add_mul, Nat.mul_assoc]
    omega

/-- only the places i .. i + t count -/
theorem seg_congr (L M : List Nat) (i t : Nat) (h : ∀ k, i ≤ k → k < i + t → L.getD k 0 = M.getD k 0) : seg L i t = seg M i t := by
  induction t with
  | zero => rfl
  | succ t ih =>
    simp only [seg]
    rw [ih (fun k h1 h2 => h k h1 (by omega)), h (i + t) (by omega) (by omega)]

theorem seg_append_left (L M : List Nat) (t : Nat) (h : t ≤ L.length) : seg (L ++ M) 0 t = seg L 0 t := by
  refine seg_congr _ _ _ _ fun k _ hk => ?_
  simp only [List.getD]
  rw [List.getElem?_append_left (by omega)]

/-- behind the end all is 0 -/
theorem seg_past (L : List Nat) (i t : Nat) (h : L.length ≤ i) : seg L i t = 0 := by
  induction t with
  | zero => rfl
  | succ t ih =>
    simp only [seg]
    rw [ih]
    simp only [List.getD]
    rw [List.getElem?_eq_none (by omega)]
    rfl

theorem seg_snoc (L : List Nat) (b : Nat) : seg (L ++ [b]) 0 (L.length + 1) = seg L 0 L.length * 2 + b := by
  simp only [seg]
  rw [seg_append_left _ _ _ (Nat.le_refl _)]
  simp

theorem seg_bits (L : List Nat) (k x : Nat) : seg (L ++ bitsL k x) 0 (L.length + k) = putN (seg L 0 L.length) x k := by
  induction k generalizing x with
  | zero => simp [bitsL, putN_zero]
  | succ k ih =>
    have h := seg_snoc (L ++ bitsL k (x / 2)) (x % 2)
    rw [List.length_append, bitsL_length] at h
    rw [bitsL, ← List.append_assoc, ← Nat.add_assoc, h, ih]
    have := putN_split (seg L 0 L.length) x k 1
    rw [← this]
    unfold putN
    simp

theorem isBits_nil : IsBits [] := fun k => by simp
theorem isBits_append (L M : List Nat) (h : IsBits L) (hM : ∀ b ∈ M, b ≤ 1) : IsBits (L ++ M) := by
  intro k
  rcases Nat.lt_or_ge k L.length with hk | hk
  · have := h k
    simp only [List.getD] at this ⊢
    rw [List.getElem?_append_left hk]
    exact this
  · simp only [List.getD]
    rw [List.getElem?_append_right hk]
    cases hb : M[k - L.length]? with
    | none => simp
    | some b => exact hM b (List.mem_of_getElem? hb)

/-- j whole bytes of a list of bits, filled up with zeros -/
def bytesL (L : List Nat) (j : Nat) : List Nat := toB j (seg L 0 (8 * j))

theorem bytesL_succ (L : List Nat) (h : IsBits L) (j : Nat) : bytesL L (j + 1) = bytesL L j ++ [seg L (8 * j) 8] := by
  unfold bytesL
  have h1 := seg_add L 0 (8 * j) 8
  have h2 := seg_lt L h (8 * j) 8
  rw [Nat.zero_add] at h1
  rw [toB, show 8 * (j + 1) = 8 * j + 8 from by omega, h1]
  have e : (2 : Nat) ^ 8 = 256 := rfl
  rw [e] at h2 ⊢
  rw [show (seg L 0 (8 * j) * 256 + seg L (8 * j) 8) / 256 = seg L 0 (8 * j) from by omega, show (seg L 0 (8 * j) * 256 + seg L (8 * j) 8) % 256 = seg L (8 * j) 8 from by omega]

theorem bytesL_all (L : List Nat) : bytesL L (nb L.length) = packB (seg L 0 L.length) L.length := by
  unfold bytesL packB
  have h : 8 * nb L.length = L.length + (8 * nb L.length - L.length) := by unfold nb; omega
  have e : seg L 0 (8 * nb L.length) = seg L 0 L.length * 2 ^ (8 * nb L.length - L.length) := by
    conv => lhs; rw [h]
    rw [seg_add, seg_past L (0 + L.length) _ (by omega), Nat.add_zero]
  rw [e]

end Go.Proofs.Ytmenhgdedllioaa.Num
