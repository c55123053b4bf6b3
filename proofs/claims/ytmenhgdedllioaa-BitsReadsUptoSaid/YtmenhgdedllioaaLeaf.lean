/-
  The calls of package bits that call few others: contracts. Own text.
-/
import Derived.Test.YtmenhgdedllioaaChecked
import Derived.Test.YtmenhgdedllioaaNum
import Derived.WalkKit
import Derived.WalkLawsBesides
import Derived.WalkSpells
namespace Go.Proofs.Ytmenhgdedllioaa.Bits
open Go.RowKit

theorem ret_int {k : IntKind} {a b : Int} (h : a = b) : Ending.returned (.int k a) = .returned (.int k b) := by rw [h]

/-- bytes as values -/
def u8s (l : List Nat) : List Value := l.map fun (b : Nat) => Value.int .u8 (b : Int)

/-- a count of bits -/
def wide (n : Int) : Nat := (min (max n 0) 64).toNat
theorem wide_le (n : Int) : wide n ≤ 64 := by unfold wide; omega

theorem bounded_any (n : Int) (w : World) :
    Calls Try.prog 20 #[.int .i64 n] w fun e w' => e = .returned (.int .i64 ((wide n : Nat) : Int)) ∧ w = w' := by
  go_enter Try.func20, Try.ntmps20
  go_wp2
  all_goals
    go_ret
    exact ⟨ret_int (by unfold wide; omega), rfl⟩

theorem mask_u64 (k : Nat) (h : k ≤ 63) : IntKind.u64.wrap (IntKind.u64.wrap (2 ^ k) - 1) = ((2 ^ k - 1 : Nat) : Int) := by
  have h1 : (2 : Nat) ^ k < 2 ^ 64 := Nat.pow_lt_pow_right (by decide) (by omega)
  have h0 := Num.two_pos k
  rw [IntKind.wrap_u64, IntKind.wrap_u64]
  have e : ((2 : Int) ^ k) = ((2 ^ k : Nat) : Int) := by simp
  rw [e]
  generalize 2 ^ k = m at *
  omega

theorem and_mask_u64 (x k : Nat) (hx : x < 18446744073709551616) (h : k ≤ 63) :
    bits BinOp.and IntKind.u64 (x : Int) (IntKind.u64.wrap (IntKind.u64.wrap (2 ^ k) - 1)) = ((x % 2 ^ k : Nat) : Int) := by
  have h1 : (2 : Nat) ^ k < 2 ^ 64 := Nat.pow_lt_pow_right (by decide) (by omega)
  rw [mask_u64 k h, u64_and_nat _ _ hx (by omega), Nat.and_two_pow_sub_one_eq_mod]

theorem lowest_any (x k : Nat) (hx : x < 18446744073709551616) (hk : k ≤ 8) (w : World) :
    Calls Try.prog 21 #[.int .u64 (x : Int), .int .i64 (k : Int)] w fun e w' => e = .returned (.int .u64 ((x % 2 ^ k : Nat) : Int)) ∧ w = w' := by
  go_enter Try.func21, Try.ntmps21
  go_wp2
  go_ret
  exact ⟨ret_int (and_mask_u64 x k hx (by omega)), rfl⟩


/-- A WRITER at block p: its bytes v (owned), N the number that its c bits write -/
structure Wr (w : World) (B p : Nat) (v : Value) (N c : Nat) : Prop where
  blk : w.heap[p]? = some (.cells #[v, .int .i64 (c : Int)] 26 (0, 0))
  own : w.ownsRow B 5 1 v (Num.nb c) (u8s (Num.packB N c))

theorem Wr.lt {w : World} {B p : Nat} {v : Value} {N c : Nat} (h : Wr w B p v N c) : p < w.heap.size := lt_of_block h.blk
theorem Wr.c0 {w : World} {B p : Nat} {v : Value} {N c : Nat} (h : Wr w B p v N c) : w.cell? ⟨p, 0, none⟩ = some v := by simp [World.cell?, h.blk]
theorem Wr.c1 {w : World} {B p : Nat} {v : Value} {N c : Nat} (h : Wr w B p v N c) : w.cell? ⟨p, 1, none⟩ = some (.int .i64 (c : Int)) := by simp [World.cell?, h.blk]
theorem Wr.f0 {w : World} {B p : Nat} {v : Value} {N c : Nat} (h : Wr w B p v N c) : w.frozen? ⟨p, 0, none⟩ = false := by simp [World.frozen?, h.blk]
theorem Wr.f1 {w : World} {B p : Nat} {v : Value} {N c : Nat} (h : Wr w B p v N c) : w.frozen? ⟨p, 1, none⟩ = false := by simp [World.frozen?, h.blk]

theorem len_nil (w : World) : Calls Try.prog 10 #[.pointer none] w fun e w' => e = .returned (.int .i64 0) ∧ w = w' := by
  go_enter Try.func10, Try.ntmps10
  go_wp2
  go_ret
  exact ⟨rfl, rfl⟩

theorem len_any {B p : Nat} {v : Value} {N c : Nat} (w : World) (h : Wr w B p v N c) :
    Calls Try.prog 10 #[.pointer (some ⟨p, 0, none⟩)] w fun e w' => e = .returned (.int .i64 (c : Int)) ∧ w = w' := by
  have g := h.c1
  clear h
  go_enter Try.func10, Try.ntmps10
  go_wp2
  go_ret
  exact ⟨rfl, rfl⟩

theorem bytes_nil (w : World) : Calls Try.prog 11 #[.pointer none] w fun e w' => e = .returned (.string ByteArray.empty) ∧ w = w' := by
  go_enter Try.func11, Try.ntmps11
  go_wp2
  go_ret
  exact ⟨rfl, rfl⟩

theorem put_nil (v n : Int) (w : World) : Calls Try.prog 8 #[.pointer none, .int .u64 v, .int .i64 n] w fun e w' => e = .returned (.tuple #[]) ∧ w = w' := by
  go_enter Try.func8, Try.ntmps8
  go_wp2
  refine bodyPost_ret (results_none rfl _ _ _) rfl ?_
  exact ⟨rfl, rfl⟩

theorem left_nil (w : World) : Calls Try.prog 19 #[.pointer none] w fun e w' => e = .returned (.int .i64 0) ∧ w = w' := by
  go_enter Try.func19, Try.ntmps19
  go_wp2
  go_ret
  exact ⟨rfl, rfl⟩

theorem take_nil (n : Int) (w : World) : Calls Try.prog 16 #[.pointer none, .int .i64 n] w fun e w' => e = .returned (.tuple #[.int .u64 0, .bool (decide (n ≤ 0))]) ∧ w = w' := by
  have hb := bounded_any n w
  by_cases h : 0 < n
  · have hd : decide (n ≤ 0) = false := by simp; omega
    have hw : 0 < wide n := by unfold wide; omega
    rw [hd]
    clear hb hd
    go_enter Try.func16, Try.ntmps16
    go_wp2_with (first | (go_at_call 20; refine (bounded_any _ _).mono ?_; rintro e w' ⟨rfl, rfl⟩) | (go_at_call 19; refine (left_nil _).mono ?_; rintro e w' ⟨rfl, rfl⟩))
    go_ret2
    exact ⟨rfl, rfl⟩
  · have hd : decide (n ≤ 0) = true := by simp; omega
    have hw : wide n = 0 := by unfold wide; omega
    rw [hw] at hb
    rw [hd]
    clear hw hd
    go_enter Try.func16, Try.ntmps16
    go_wp2_with (first | (go_at_call 20; refine hb.mono ?_; rintro e w' ⟨rfl, rfl⟩) | (go_at_call 19; refine (left_nil _).mono ?_; rintro e w' ⟨rfl, rfl⟩))
    refine wp_loop_rounds 1 ?_
    rw [rounds_succ]
    go_wp2
    go_ret2
    exact ⟨rfl, rfl⟩

end Go.Proofs.Ytmenhgdedllioaa.Bits
