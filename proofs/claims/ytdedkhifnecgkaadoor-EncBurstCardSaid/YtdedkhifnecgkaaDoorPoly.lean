/-
  Plain facts on the checksum's division: a step, eight steps a byte, half a byte by a table; what it says of bits that are turned. Nothing of the program. Own text.
-/
import Derived.KernelRfl
namespace Go.Proofs.YtdedkhifnecgkaaDoor.Poly

/-- the polynomial, the highest power in the lowest bit -/
def poly : Nat := 2197175160

/-- one step of the division; what lies above the lowest 32 bits is text to come -/
def step (x : Nat) : Nat := x / 2 ^^^ (if x % 2 = 1 then poly else 0)

def steps : Nat → Nat → Nat
  | 0, x => x
  | n + 1, x => steps n (step x)

theorem xor_half (x y : Nat) : (x ^^^ y) / 2 = x / 2 ^^^ y / 2 := by
  apply Nat.eq_of_testBit_eq
  intro i
  simp only [Nat.testBit_xor, Nat.testBit_div_two]

theorem xor_odd (x y : Nat) : (x ^^^ y) % 2 = (x % 2 + y % 2) % 2 := by
  have h := Nat.testBit_xor x y 0
  simp only [Nat.testBit_zero] at h
  have hx := Nat.mod_two_eq_zero_or_one x
  have hy := Nat.mod_two_eq_zero_or_one y
  have hz := Nat.mod_two_eq_zero_or_one (x ^^^ y)
  rcases hx with hx | hx <;> rcases hy with hy | hy <;> rcases hz with hz | hz <;> simp_all

theorem xor_all (n x : Nat) (h : x < 2 ^ n) : x ^^^ (2 ^ n - 1) = 2 ^ n - 1 - x := by
  induction n generalizing x with
  | zero =>
    have : x = 0 := by omega
    subst this
    rfl
  | succ n ih =>
    have hp : 2 ^ (n + 1) = 2 ^ n * 2 := Nat.pow_succ _ _
    have h1 := xor_half x (2 ^ (n + 1) - 1)
    have h2 := xor_odd x (2 ^ (n + 1) - 1)
    rw [show (2 ^ (n + 1) - 1) / 2 = 2 ^ n - 1 from by omega, ih (x / 2) (by omega)] at h1
    omega

theorem step_xor (x y : Nat) : step (x ^^^ y) = step x ^^^ step y := by
  unfold step
  rw [xor_half, xor_odd]
  generalize x / 2 = a
  generalize y / 2 = b
  have hx := Nat.mod_two_eq_zero_or_one x
  have hy := Nat.mod_two_eq_zero_or_one y
  have e : a ^^^ b ^^^ poly = a ^^^ poly ^^^ b := by rw [Nat.xor_assoc, Nat.xor_comm b, Nat.xor_assoc]
  have e2 : a ^^^ poly ^^^ (b ^^^ poly) = a ^^^ b := by rw [Nat.xor_comm b, Nat.xor_assoc, ← Nat.xor_assoc poly, Nat.xor_self, Nat.zero_xor]
  rcases hx with hx | hx <;> rcases hy with hy | hy <;> rw [hx, hy] <;> simp [Nat.xor_assoc, e, e2]
  rw [Nat.xor_comm b]

theorem steps_xor (n x y : Nat) : steps n (x ^^^ y) = steps n x ^^^ steps n y := by
  induction n generalizing x y with
  | zero => rfl
  | succ n ih => rw [steps, step_xor, ih]; rfl

theorem steps_add (m n x : Nat) : steps (m + n) x = steps n (steps m x) := by
  induction m generalizing x with
  | zero => rw [Nat.zero_add]; rfl
  | succ m ih => rw [Nat.add_right_comm]; exact ih _

theorem steps_succ (k x : Nat) : steps (k + 1) x = step (steps k x) := steps_add k 1 x

theorem step_0 (x : Nat) (h : x % 2 = 0) : step x = x / 2 := by
  unfold step
  rw [if_neg (by omega), Nat.xor_zero]
theorem step_1 (x : Nat) (h : x % 2 = 1) : step x = x / 2 ^^^ poly := by
  unfold step
  rw [if_pos h]

theorem step_even (x : Nat) : step (2 * x) = x := by
  unfold step
  rw [if_neg (by omega), Nat.xor_zero]
  omega

/-- text to come comes down -/
theorem steps_down (n x : Nat) : steps n (x * 2 ^ n) = x := by
  induction n with
  | zero => simp [steps]
  | succ n ih => rw [Nat.pow_succ, ← Nat.mul_assoc, Nat.mul_comm _ 2, steps, step_even, ih]

theorem poly_lt : poly < 2 ^ 32 := by decide

theorem step_lt (x : Nat) (h : x < 2 ^ 32) : step x < 2 ^ 32 := by
  unfold step
  refine Nat.xor_lt_two_pow (by omega) ?_
  split
  · exact poly_lt
  · decide

theorem steps_lt (n x : Nat) (h : x < 2 ^ 32) : steps n x < 2 ^ 32 := by
  induction n generalizing x with
  | zero => exact h
  | succ n ih => exact ih _ (step_lt x h)

/-- a register that isn't zero doesn't become zero -/
theorem step_pos (x : Nat) (h : x < 2 ^ 32) (h0 : x ≠ 0) : step x ≠ 0 := by
  unfold step
  intro e
  split at e
  · have e2 : x / 2 = poly := by
      have := congrArg (fun z => z ^^^ poly) e
      simpa [Nat.xor_assoc] using this
    unfold poly at e2
    omega
  · rw [Nat.xor_zero] at e
    omega

theorem steps_pos (n x : Nat) (h : x < 2 ^ 32) (h0 : x ≠ 0) : steps n x ≠ 0 := by
  induction n generalizing x with
  | zero => exact h0
  | succ n ih => exact ih _ (step_lt x h) (step_pos x h h0)

/-- nor do bits among 32 neighbouring ones -/
theorem burst (n at' m : Nat) (h : m < 2 ^ 32) (h0 : m ≠ 0) : steps n (m * 2 ^ at') ≠ 0 := by
  by_cases hn : n ≤ at'
  · rw [show at' = (at' - n) + n from by omega, Nat.pow_add, ← Nat.mul_assoc, steps_down]
    exact Nat.mul_ne_zero h0 (Nat.ne_of_gt (Nat.pow_pos (by decide)))
  · rw [show n = at' + (n - at') from by omega, steps_add, steps_down]
    exact steps_pos _ _ h h0

/-- the table of half bytes -/
def half (k : Nat) : Nat := steps 4 k

theorem half_table : (List.range 16).map half = [0, 274646895, 549293790, 820201905, 1098587580, 1361435347, 1640403810, 1905808397, 2197175160, 2460548119, 2722870694, 2987750089, 3280807620, 3553878443, 3811616794, 4084100981] := by decide +kernel

/-- four steps by the table -/
theorem steps_half (x : Nat) : steps 4 x = x / 16 ^^^ half (x % 16) := by
  have e : x = x / 16 * 2 ^ 4 ^^^ x % 16 := by
    have h := Nat.two_pow_add_eq_or_of_lt (i := 4) (b := x % 16) (Nat.mod_lt _ (by decide)) (x / 16)
    apply Nat.eq_of_testBit_eq
    intro i
    rw [Nat.testBit_xor, Nat.testBit_mul_two_pow, show (16 : Nat) = 2 ^ 4 from rfl, Nat.testBit_mod_two_pow, Nat.testBit_div_two_pow]
    by_cases hi : 4 ≤ i
    · simp [hi, show ¬ i < 4 from by omega]
    · simp [hi, show i < 4 from by omega]
  conv => lhs; rw [e]
  rw [steps_xor, steps_down]
  rfl

/-- one byte -/
def byte (c b : Nat) : Nat := steps 8 (c ^^^ b)

theorem xor_div (x y k : Nat) : (x ^^^ y) / 2 ^ k = x / 2 ^ k ^^^ y / 2 ^ k := by
  apply Nat.eq_of_testBit_eq
  intro i
  simp only [Nat.testBit_xor, Nat.testBit_div_two_pow]

theorem xor_mod (x y k : Nat) : (x ^^^ y) % 2 ^ k = x % 2 ^ k ^^^ y % 2 ^ k := by
  apply Nat.eq_of_testBit_eq
  intro i
  simp only [Nat.testBit_xor, Nat.testBit_mod_two_pow]
  by_cases h : i < k <;> simp [h]

/-- one byte by two looks into the table -/
theorem byte_halves (c b : Nat) (hb : b < 256) :
    byte c b = (c / 16 ^^^ half ((c ^^^ b) % 16)) / 16 ^^^ half (((c / 16 ^^^ half ((c ^^^ b) % 16)) ^^^ b / 16) % 16) := by
  unfold byte
  rw [show (8 : Nat) = 4 + 4 from rfl, steps_add, steps_half (c ^^^ b), show (16 : Nat) = 2 ^ 4 from rfl, xor_div c b 4]
  generalize half ((c ^^^ b) % 2 ^ 4) = t
  have e : c / 2 ^ 4 ^^^ b / 2 ^ 4 ^^^ t = (c / 2 ^ 4 ^^^ t) ^^^ b / 2 ^ 4 := by rw [Nat.xor_assoc, Nat.xor_comm (b / 2 ^ 4), Nat.xor_assoc]
  rw [e, steps_half, show (16 : Nat) = 2 ^ 4 from rfl, xor_div _ (b / 2 ^ 4) 4, show b / 2 ^ 4 / 2 ^ 4 = 0 from by omega, Nat.xor_zero]

/-- all bytes -/
def reg (c : Nat) (l : List Nat) : Nat := l.foldl byte c

theorem reg_append (c : Nat) (l m : List Nat) : reg c (l ++ m) = reg (reg c l) m := by simp [reg]

def ones : Nat := 4294967295

/-- the sum -/
def crc (l : List Nat) : Nat := reg ones l ^^^ ones

theorem byte_lt (c b : Nat) (hc : c < 2 ^ 32) (hb : b < 256) : byte c b < 2 ^ 32 := steps_lt _ _ (Nat.xor_lt_two_pow hc (by omega))

theorem reg_lt (l : List Nat) (h : ∀ x ∈ l, x < 256) (c : Nat) (hc : c < 2 ^ 32) : reg c l < 2 ^ 32 := by
  induction l generalizing c with
  | nil => exact hc
  | cons b l ih => exact ih (fun x hx => h x (List.mem_cons_of_mem _ hx)) _ (byte_lt c b hc (h b List.mem_cons_self))

theorem crc_lt (l : List Nat) (h : ∀ x ∈ l, x < 256) : crc l < 2 ^ 32 := Nat.xor_lt_two_pow (reg_lt l h _ (by decide)) (by decide)

/-- bytes as a number, the lowest first -/
def le : List Nat → Nat
  | [] => 0
  | b :: l => b ^^^ le l * 2 ^ 8

theorem reg_le (l : List Nat) (c : Nat) : reg c l = steps (8 * l.length) (c ^^^ le l) := by
  induction l generalizing c with
  | nil => simp [reg, le, steps]
  | cons b l ih =>
    have := ih (byte c b)
    simp only [reg, List.foldl_cons] at this ⊢
    rw [this, le, List.length_cons, show 8 * (l.length + 1) = 8 + 8 * l.length from by omega, steps_add, ← Nat.xor_assoc, steps_xor 8, steps_down]
    rfl

theorem le_append (l m : List Nat) : le (l ++ m) = le l ^^^ le m * 2 ^ (8 * l.length) := by
  induction l with
  | nil => simp [le]
  | cons b l ih =>
    rw [List.cons_append, le, le, ih, List.length_cons, Nat.mul_add, Nat.pow_add]
    have : (le l ^^^ le m * 2 ^ (8 * l.length)) * 2 ^ 8 = le l * 2 ^ 8 ^^^ le m * 2 ^ (8 * l.length) * 2 ^ 8 := by
      apply Nat.eq_of_testBit_eq
      intro i
      simp only [Nat.testBit_xor, Nat.testBit_mul_two_pow]
      by_cases h : 8 ≤ i <;> simp [h]
    rw [this, Nat.xor_assoc, Nat.mul_assoc]

/-- four bytes of a number, the lowest first -/
def four (v : Nat) : List Nat := [v % 256, v / 256 % 256, v / 65536 % 256, v / 16777216 % 256]

theorem four_length (v : Nat) : (four v).length = 4 := rfl

theorem four_lt (v : Nat) : ∀ x ∈ four v, x < 256 := by
  intro x hx
  simp only [four, List.mem_cons, List.not_mem_nil, or_false] at hx
  omega

theorem cut_xor (v k : Nat) : v % 2 ^ k ^^^ v / 2 ^ k * 2 ^ k = v := by
  apply Nat.eq_of_testBit_eq
  intro i
  rw [Nat.testBit_xor, Nat.testBit_mod_two_pow, Nat.testBit_mul_two_pow, Nat.testBit_div_two_pow]
  by_cases h : k ≤ i
  · simp [h, show ¬ i < k from by omega]
  · simp [h, show i < k from by omega]

theorem four_le (v : Nat) (h : v < 2 ^ 32) : le (four v) = v := by
  simp only [four, le]
  have e3 : v / 16777216 % 256 = v / 16777216 := Nat.mod_eq_of_lt (by omega)
  have e1 : v / 65536 = v / 256 / 2 ^ 8 := by omega
  have e2 : v / 16777216 = v / 256 / 2 ^ 8 / 2 ^ 8 := by omega
  rw [e3, Nat.zero_mul, Nat.xor_zero, e2, e1, show v / 256 / 2 ^ 8 % 256 = v / 256 / 2 ^ 8 % 2 ^ 8 from rfl, cut_xor, show v / 256 % 256 = v / 256 % 2 ^ 8 from rfl, cut_xor, show v % 256 = v % 2 ^ 8 from rfl, show v / 256 = v / 2 ^ 8 from rfl, cut_xor]

/-- what is read of four bytes -/
def num4 (a b c d : Nat) : Nat := a + b * 256 + c * 65536 + d * 16777216

theorem le_four (a b c d : Nat) (ha : a < 256) (hb : b < 256) (hc : c < 256) (hd : d < 256) : four (num4 a b c d) = [a, b, c, d] := by
  unfold four num4
  congr 1
  · omega
  · congr 1
    · omega
    · congr 1
      · omega
      · congr 1
        omega

theorem num4_lt (a b c d : Nat) (ha : a < 256) (hb : b < 256) (hc : c < 256) (hd : d < 256) : num4 a b c d < 2 ^ 32 := by
  unfold num4; omega

theorem num4_four (v : Nat) (h : v < 2 ^ 32) : num4 (v % 256) (v / 256 % 256) (v / 65536 % 256) (v / 16777216 % 256) = v := by
  unfold num4; omega

theorem num4_or (a b c d : Nat) (ha : a < 256) (hb : b < 256) (hc : c < 256) : a ||| b * 256 ||| c * 65536 ||| d * 16777216 = num4 a b c d := by
  have h1 : a ||| b * 256 = a + b * 256 := by
    have := Nat.two_pow_add_eq_or_of_lt (i := 8) (b := a) ha b
    rw [Nat.or_comm, show b * 256 = 2 ^ 8 * b from by omega, ← this]; omega
  have h2 : (a + b * 256) ||| c * 65536 = a + b * 256 + c * 65536 := by
    have := Nat.two_pow_add_eq_or_of_lt (i := 16) (b := a + b * 256) (by omega) c
    rw [Nat.or_comm, show c * 65536 = 2 ^ 16 * c from by omega, ← this]; omega
  have h3 : (a + b * 256 + c * 65536) ||| d * 16777216 = a + b * 256 + c * 65536 + d * 16777216 := by
    have := Nat.two_pow_add_eq_or_of_lt (i := 24) (b := a + b * 256 + c * 65536) (by omega) d
    rw [Nat.or_comm, show d * 16777216 = 2 ^ 24 * d from by omega, ← this]; omega
  rw [h1, h2, h3]; rfl

/-- THE BURST: a text of n bytes with its sum behind, in which among 32 neighbouring bits at least one is turned, isn't one with its sum behind. -/
theorem burst_told (l l' : List Nat) (a m n s : Nat) (hl' : l'.length = n) (hs : s < 2 ^ 32) (hll : l.length = n) (hm : m < 2 ^ 32) (h0 : m ≠ 0) (hb : ∀ x ∈ l, x < 256)
    (hx : le (l' ++ four s) = le (l ++ four (crc l)) ^^^ m * 2 ^ a) : s ≠ crc l' := by
  intro hsc
  subst hsc
  rw [le_append, le_append, four_le _ hs, four_le _ (crc_lt l hb), hl', hll] at hx
  unfold crc at hx
  rw [reg_le, reg_le, hl', hll] at hx
  have h2 := congrArg (fun z => steps (8 * n) z) hx
  simp only [steps_xor, steps_down] at h2
  generalize hA : steps (8 * n) (le l) = A at h2
  generalize steps (8 * n) (le l') = A' at h2
  generalize steps (8 * n) ones = O at h2
  have hB := burst (8 * n) a m hm h0
  generalize steps (8 * n) (m * 2 ^ a) = M at h2 hB
  apply hB
  have z1 : A' ^^^ (O ^^^ A' ^^^ ones) = O ^^^ ones := by rw [Nat.xor_comm O, Nat.xor_assoc, ← Nat.xor_assoc, Nat.xor_self, Nat.zero_xor]
  have z2 : A ^^^ (O ^^^ A ^^^ ones) = O ^^^ ones := by rw [Nat.xor_comm O, Nat.xor_assoc, ← Nat.xor_assoc, Nat.xor_self, Nat.zero_xor]
  rw [z1, z2] at h2
  have h3 := congrArg (fun z => (O ^^^ ones) ^^^ z) h2
  simp only [Nat.xor_self, ← Nat.xor_assoc] at h3
  rw [Nat.zero_xor] at h3
  exact h3.symm

end Go.Proofs.YtdedkhifnecgkaaDoor.Poly
