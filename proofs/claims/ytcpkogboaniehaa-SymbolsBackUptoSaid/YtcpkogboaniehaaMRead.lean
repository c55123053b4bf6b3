/-
  Numbers read from bytes: what is read, as plain functions of a text and a place; contracts of ReadUint, of the program and of the document's answer. Own text.
-/
import Derived.Test.YtcpkogboaniehaaBase
import Derived.Test.YtcpkogboaniehaaVar
namespace Go.Proofs.Ytcpkogboaniehaa.Enc
open Go.RowKit Go Go.Proofs.Ytcpkogboaniehaa.Base

/-- how many digits with 128 added stand from a place on: at most f -/
def lead (s : ByteArray) : Nat → Nat → Nat
  | 0, _ => 0
  | f + 1, a => if a < s.size ∧ 128 ≤ at8 s a then lead s f (a + 1) + 1 else 0

theorem lead_spec (s : ByteArray) (f a : Nat) (ha : a ≤ s.size) :
    lead s f a ≤ f ∧ a + lead s f a ≤ s.size ∧ (∀ i, i < lead s f a → 128 ≤ at8 s (a + i)) ∧ (a + lead s f a = s.size ∨ lead s f a = f ∨ at8 s (a + lead s f a) < 128) := by
  induction f generalizing a with
  | zero => exact ⟨Nat.le_refl _, ha, fun i hi => by simp [lead] at hi, .inr (.inl rfl)⟩
  | succ f ih =>
    unfold lead
    split
    · rename_i h
      obtain ⟨h1, h2, h3, h4⟩ := ih (a + 1) (by omega)
      refine ⟨by omega, by omega, ?_, ?_⟩
      · intro i hi
        by_cases hz : i = 0
        · subst hz; exact h.2
        · have := h3 (i - 1) (by omega)
          rwa [show a + 1 + (i - 1) = a + i from by omega] at this
      · rw [show a + (lead s f (a + 1) + 1) = a + 1 + lead s f (a + 1) from by omega]
        omega
    · rename_i h
      refine ⟨by omega, by omega, fun i hi => by omega, ?_⟩
      rw [Nat.add_zero]
      omega

/-- the digits that a number has at a place, but for the last -/
def kk (s : ByteArray) (a : Int) : Nat := lead s 9 a.toNat

/-- the error of a number that is read -/
def rdE (s : ByteArray) (a : Int) : Nat :=
  if a < 0 ∨ (s.size : Int) ≤ a then 20
  else if a.toNat + kk s a = s.size then 20
  else if (kk s a = 9 ∧ 1 < at8 s (a.toNat + kk s a)) ∨ (0 < kk s a ∧ at8 s (a.toNat + kk s a) = 0) then 21 else 0

def rdV (s : ByteArray) (a : Int) : Nat := if rdE s a = 0 then Var.val (at8 s) a.toNat (kk s a + 1) else 0
def rdN (s : ByteArray) (a : Int) : Nat := if rdE s a = 0 then a.toNat + kk s a + 1 else 0

theorem rdE_out (s : ByteArray) (a : Int) (h : a < 0 ∨ (s.size : Int) ≤ a) : rdE s a = 20 := by unfold rdE; rw [if_pos h]
theorem rdV_err (s : ByteArray) (a : Int) (h : rdE s a ≠ 0) : rdV s a = 0 := by unfold rdV; rw [if_neg h]
theorem rdN_err (s : ByteArray) (a : Int) (h : rdE s a ≠ 0) : rdN s a = 0 := by unfold rdN; rw [if_neg h]

/-- what is read, case by case: a is the place -/
inductive Reads (s : ByteArray) (a k : Nat) : Nat → Nat → Nat → Prop
  | short : a + k = s.size → Reads s a k 0 0 20
  | bad : a + k < s.size → (k = 9 ∧ 1 < at8 s (a + k)) ∨ (0 < k ∧ at8 s (a + k) = 0) → Reads s a k 0 0 21
  | good : a + k < s.size → at8 s (a + k) < 128 → (k = 9 → at8 s (a + k) ≤ 1) → (k = 0 ∨ at8 s (a + k) ≠ 0) → Reads s a k (Var.val (at8 s) a (k + 1)) (a + k + 1) 0

theorem reads_of (s : ByteArray) (a : Nat) (h : a < s.size) : Reads s a (kk s (a : Int)) (rdV s (a : Int)) (rdN s (a : Int)) (rdE s (a : Int)) := by
  obtain ⟨h1, h2, h3, h4⟩ := lead_spec s 9 a (by omega)
  have hk : kk s (a : Int) = lead s 9 a := rfl
  have hE : rdE s (a : Int) = if a + lead s 9 a = s.size then 20 else if (lead s 9 a = 9 ∧ 1 < at8 s (a + lead s 9 a)) ∨ (0 < lead s 9 a ∧ at8 s (a + lead s 9 a) = 0) then 21 else 0 := by
    unfold rdE
    rw [if_neg (by omega)]
    rfl
  unfold rdV rdN
  rw [hE, hk]
  by_cases c1 : a + lead s 9 a = s.size
  · rw [if_pos c1]; exact .short c1
  · rw [if_neg c1]
    by_cases c2 : (lead s 9 a = 9 ∧ 1 < at8 s (a + lead s 9 a)) ∨ (0 < lead s 9 a ∧ at8 s (a + lead s 9 a) = 0)
    · rw [if_pos c2]; exact .bad (by omega) c2
    · rw [if_neg c2]; exact .good (by omega) (by omega) (by omega) (by omega)

theorem kk_spec (s : ByteArray) (a : Nat) (h : a < s.size) : kk s (a : Int) ≤ 9 ∧ a + kk s (a : Int) ≤ s.size ∧ (∀ i, i < kk s (a : Int) → 128 ≤ at8 s (a + i)) := by
  obtain ⟨h1, h2, h3, _⟩ := lead_spec s 9 a (by omega)
  exact ⟨h1, h2, h3⟩

/-- the last digit is a last digit -/
def endsB (d i : Nat) : Bool := (decide (0 < d) || decide (i = 0)) && (decide (d ≤ 1) || decide (i < 9))

theorem ends_any (d i : Nat) (w : World) : Calls Try.prog 66 #[.int .u8 (d : Int), .int .i64 (i : Int)] w fun e w' => e = .returned (.bool (endsB d i)) ∧ w = w' := by
  unfold endsB
  by_cases h1 : 0 < d <;> by_cases h2 : i = 0 <;> by_cases h3 : d ≤ 1 <;> by_cases h4 : i < 9
  all_goals
    have h3i : ((d : Int) ≤ 1) = (d ≤ 1) := by apply propext; omega
    have h4i : ((i : Int) < 9) = (i < 9) := by apply propext; omega
    go_enter Try.func66, Try.ntmps66
    go_wp2
    go_ret
    first | exact ⟨rfl, rfl⟩ | (refine ⟨?_, rfl⟩; simp_all)

theorem or_shift (q m j : Nat) (hq : q < 18446744073709551616) :
    bits BinOp.or IntKind.u64 (q : Int) (IntKind.u64.wrap ((m : Int) * 2 ^ (7 * j))) = ((q ||| m * 2 ^ (7 * j) % 18446744073709551616 : Nat) : Int) := by
  have e : IntKind.u64.wrap ((m : Int) * 2 ^ (7 * j)) = ((m * 2 ^ (7 * j) % 18446744073709551616 : Nat) : Int) := by
    rw [IntKind.wrap_u64]
    have : ((m : Int) * 2 ^ (7 * j)) = ((m * 2 ^ (7 * j) : Nat) : Int) := by simp
    rw [this]
    omega
  rw [e, u64_or_nat _ _ hq (by omega)]

theorem or_shift_lt (q m j : Nat) (hq : q < 18446744073709551616) : (q ||| m * 2 ^ (7 * j) % 18446744073709551616) < 18446744073709551616 :=
  Nat.or_lt_two_pow (n := 64) hq (by omega)

theorem or_shift_val (at' : Nat → Nat) (a j : Nat) (h : j < 9 ∨ j = 9 ∧ at' (a + j) % 128 ≤ 1) :
    (Var.val at' a j ||| at' (a + j) % 128 * 2 ^ (7 * j) % 18446744073709551616) = Var.val at' a (j + 1) := by
  have hv := Var.val_lt at' a j
  have e128 : (128 : Nat) ^ j = 2 ^ (7 * j) := by rw [show (128 : Nat) = 2 ^ 7 from rfl, ← Nat.pow_mul]
  rw [e128] at hv
  have hlt : at' (a + j) % 128 * 2 ^ (7 * j) < 18446744073709551616 := by
    rcases h with h | ⟨h, h1⟩
    · have h1 : at' (a + j) % 128 ≤ 127 := by omega
      have h2 : at' (a + j) % 128 * 2 ^ (7 * j) ≤ 127 * 2 ^ (7 * 8) := Nat.mul_le_mul h1 (Nat.pow_le_pow_right (by decide) (by omega))
      omega
    · subst h
      omega
  rw [Nat.mod_eq_of_lt hlt, Var.val, e128, Nat.or_comm, Nat.mul_comm, ← Nat.two_pow_add_eq_or_of_lt hv]
  omega

theorem ret_three {a b c a' b' c' : Int} {k l m : IntKind} (h1 : a = a') (h2 : b = b') (h3 : c = c') : Ending.returned (.tuple #[.int k a, .int l b, .int m c]) = .returned (.tuple #[.int k a', .int l b', .int m c']) := by rw [h1, h2, h3]

theorem readUint_in (s : ByteArray) (a k v n e : Nat) (hs : s.size ≤ 140737488351232) (ha : a < s.size) (hk9 : k ≤ 9) (hk : a + k ≤ s.size) (hd : ∀ i, i < k → 128 ≤ at8 s (a + i)) (hR : Reads s a k v n e) (w : World) :
    Calls Try.prog 50 #[.string s, .int .i64 (a : Int)] w fun e' w' => e' = .returned (.tuple #[.int .u64 (v : Int), .int .i64 (n : Int), .int .i64 (e : Int)]) ∧ w = w' := by
  have Hd := Lib.hid hd
  have HR := Lib.hid hR
  clear hd hR
  have hneg : decide ((a : Int) < 0) = false := by simp
  have hge : decide (s.size ≤ a) = false := by simp; omega
  go_enter Try.func50, Try.ntmps50
  go_wp2_with fail
  go_loopg [7, 18] 10 (fun r y i wr => ∃ q j : Nat, Hid (j + r = 10) ∧ j ≤ 10 ∧ i = .int .i64 (j : Int) ∧ y = .int .u64 (q : Int) ∧ Hid (q < 18446744073709551616) ∧ Hid (j ≤ k ∧ q = Var.val (at8 s) a j ∨ j = 10 ∧ k = 9 ∧ a + 9 < s.size ∧ 128 ≤ at8 s (a + 9)) ∧ wr = w)
  case atStart => exact ⟨0, 0, rfl, by omega, rfl, rfl, by show _ < _; omega, .inl ⟨Nat.zero_le _, rfl⟩, rfl⟩
  case round =>
    obtain ⟨q, j, hE, hj, rfl, rfl, hq, hJ, rfl⟩ := hrel
    by_cases hj10 : j = 10
    · subst hj10
      have h3 : v = 0 ∧ n = 0 ∧ e = 21 := by
        rcases hJ.out with ⟨h, _⟩ | ⟨_, h9, hin9, h128⟩
        · omega
        · cases HR.out with
          | short h => rw [h9] at h; omega
          | bad _ _ => exact ⟨rfl, rfl, rfl⟩
          | good h1 h2 h3 h4 => rw [h9] at h2; omega
      obtain ⟨rfl, rfl, rfl⟩ := h3
      clear HR hJ
      go_wp2_with fail
      go_ret3
      exact ⟨rfl, rfl⟩
    · have hlt : j < 10 := by omega
      have hlti : (j : Int) < 10 := by omega
      by_cases hin : a + j < s.size
      · obtain ⟨d, hde⟩ : ∃ d, (s[a + j]'hin).toNat = d := ⟨_, rfl⟩
        have hd8 : d < 256 := by rw [← hde]; exact (s[a + j]'hin).toNat_lt
        have hdat := at8_eq s (a + j) hin
        rw [hde] at hdat
        have HDat := Lib.hid hdat
        clear hdat
        have hm : bits BinOp.and IntKind.u8 (d : Int) 127 = ((d % 128 : Nat) : Int) := by
          rw [show (127 : Int) = ((127 : Nat) : Int) from rfl, u8_and_nat _ _ hd8 (by decide), show (127 : Nat) = 2 ^ 7 - 1 from rfl, Nat.and_two_pow_sub_one_eq_mod]
        obtain ⟨m, hmm⟩ : ∃ m, m = d % 128 := ⟨_, rfl⟩
        have hm8 : m < 128 := by omega
        rw [← hmm] at hm
        have HM := Lib.hid hmm
        clear hmm
        go_upto_region 10 with (fail)
        go_cut [7] (fun u wx => ∃ q2 : Nat, u = .int .u64 (q2 : Int) ∧ Hid (q2 < 18446744073709551616) ∧ Hid (q2 = (q ||| m * 2 ^ (7 * j) % 18446744073709551616)) ∧ wx = wr)
        case first =>
          go_wp2_with fail
          go_meet
          exact ⟨_, val_int (or_shift q m j hq.out), or_shift_lt q m j hq.out, rfl, rfl⟩
        case rest =>
          obtain ⟨q2, rfl, hq2, HQ2, rfl⟩ := hcut
          by_cases hd128 : 128 ≤ d
          · have hd128i : (128 : Int) ≤ (d : Int) := by omega
            have hnext : j + 1 ≤ k ∧ q2 = Var.val (at8 s) a (j + 1) ∨ j + 1 = 10 ∧ k = 9 ∧ a + 9 < s.size ∧ 128 ≤ at8 s (a + 9) := by
              rcases hJ.out with ⟨hle, hqv⟩ | ⟨h, _⟩
              · by_cases hjk : j < k
                · refine .inl ⟨by omega, ?_⟩
                  rw [HQ2.out, HM.out, ← HDat.out, hqv, or_shift_val _ _ _ (by omega)]
                · have hk9 : k = 9 := by
                    cases HR.out with
                    | short h => omega
                    | bad _ h => have := HDat.out; rw [show a + j = a + k from by omega] at this; omega
                    | good _ h _ _ => have := HDat.out; rw [show a + j = a + k from by omega] at this; omega
                  refine .inr ⟨by omega, hk9, by omega, ?_⟩
                  have := HDat.out
                  rw [show a + j = a + 9 from by omega] at this
                  omega
              · omega
            have HN := Lib.hid hnext
            clear hnext hm hde
            go_wp2_with fail
            go_roundg (10 - (j + 1))
            case measure => have := hE.out; omega
            case rel => exact ⟨q2, j + 1, by show _ = _; omega, by omega, by go_num, rfl, hq2, HN, rfl⟩
          · have hd128i : ¬ (128 : Int) ≤ (d : Int) := by omega
            have hjk : j = k := by
              rcases hJ.out with ⟨hle, _⟩ | ⟨h, _⟩
              · rcases Nat.lt_or_ge j k with h | h
                · have := Hd.out j h
                  have := HDat.out
                  omega
                · omega
              · omega
            subst hjk
            have hqv : q = Var.val (at8 s) a j := by
              rcases hJ.out with ⟨_, h⟩ | ⟨h, _⟩
              · exact h
              · omega
            have hout : endsB d j = false ∧ v = 0 ∧ n = 0 ∧ e = 21 ∨ endsB d j = true ∧ v = q2 ∧ n = a + j + 1 ∧ e = 0 := by
              have hD := HDat.out
              cases HR.out with
              | short h => omega
              | bad _ h =>
                refine .inl ⟨?_, rfl, rfl, rfl⟩
                unfold endsB
                rw [hD] at h
                rcases h with ⟨h1, h2⟩ | ⟨h1, h2⟩
                · simp; omega
                · simp; omega
              | good _ h1 h2 h3 =>
                refine .inr ⟨?_, ?_, rfl, rfl⟩
                · unfold endsB
                  rw [hD] at h1 h2 h3
                  simp
                  omega
                · rw [HQ2.out, HM.out, ← HDat.out, hqv, or_shift_val _ _ _ (by omega)]
            clear hm hde hqv HQ2
            rcases hout with ⟨hb, rfl, rfl, rfl⟩ | ⟨hb, rfl, rfl, rfl⟩
            · have hcall : ∀ W : World, Calls Try.prog 66 #[.int .u8 (d : Int), .int .i64 (j : Int)] W fun e w' => e = .returned (.bool false) ∧ W = w' := fun W => by
                have := ends_any d j W
                rw [hb] at this
                exact this
              have HC := Lib.hid hcall
              clear hcall hb
              go_wp2_with (go_at_call 66; refine (HC.out _).mono ?_; rintro e w' ⟨rfl, rfl⟩)
              go_ret3
              exact ⟨rfl, rfl⟩
            · have hcall : ∀ W : World, Calls Try.prog 66 #[.int .u8 (d : Int), .int .i64 (j : Int)] W fun e w' => e = .returned (.bool true) ∧ W = w' := fun W => by
                have := ends_any d j W
                rw [hb] at this
                exact this
              have HC := Lib.hid hcall
              clear hcall hb
              go_wp2_with (go_at_call 66; refine (HC.out _).mono ?_; rintro e w' ⟨rfl, rfl⟩)
              go_ret3
              exact ⟨ret_three rfl (by omega) rfl, rfl⟩
      · have hjk : j = k ∧ a + k = s.size := by
          rcases hJ.out with ⟨hle, _⟩ | ⟨h, _⟩
          · omega
          · omega
        obtain ⟨rfl, hend⟩ := hjk
        have h3 : v = 0 ∧ n = 0 ∧ e = 20 := by
          cases HR.out with
          | short h => exact ⟨rfl, rfl, rfl⟩
          | bad h _ => omega
          | good h _ _ _ => omega
        obtain ⟨rfl, rfl, rfl⟩ := h3
        have heq : ((j : Int) == (s.size : Int) - (a : Int)) = true := by simp; omega
        clear HR hJ
        go_wp2_with fail
        go_ret3
        exact ⟨rfl, rfl⟩

theorem readUint_any (s : ByteArray) (a : Int) (hs : s.size ≤ 140737488351232) (w : World) :
    Calls Try.prog 50 #[.string s, .int .i64 a] w fun e' w' => e' = .returned (.tuple #[.int .u64 (rdV s a : Int), .int .i64 (rdN s a : Int), .int .i64 (rdE s a : Int)]) ∧ w = w' := by
  by_cases h : a < 0 ∨ (s.size : Int) ≤ a
  · have h20 := rdE_out s a h
    rw [rdV_err s a (by omega), rdN_err s a (by omega), h20]
    clear h20
    by_cases h0 : a < 0
    · go_enter Try.func50, Try.ntmps50
      go_wp2_with fail
      go_ret3
      exact ⟨rfl, rfl⟩
    · have h1 : (s.size : Int) ≤ a := by omega
      clear h
      go_enter Try.func50, Try.ntmps50
      go_wp2_with fail
      go_ret3
      exact ⟨rfl, rfl⟩
  · obtain ⟨b, rfl⟩ := Int.eq_ofNat_of_zero_le (show 0 ≤ a by omega)
    have hb : b < s.size := by omega
    obtain ⟨h1, h2, h3⟩ := kk_spec s b hb
    exact readUint_in s b (kk s b) _ _ _ hs hb h1 h2 h3 (reads_of s b hb) w

end Go.Proofs.Ytcpkogboaniehaa.Enc
