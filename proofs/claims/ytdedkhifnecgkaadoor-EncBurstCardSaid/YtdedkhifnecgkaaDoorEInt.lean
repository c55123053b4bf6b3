/-
  Numbers with a sign: contracts of Int and ReadInt, of the program and of the document's answer. Own text.
-/
import Derived.Test.YtdedkhifnecgkaaDoorERefR
import Derived.Test.YtdedkhifnecgkaaDoorEUint
import Derived.Laws.DeepNot64
namespace Go.Proofs.YtdedkhifnecgkaaDoor.Enc
open Go.RowKit Go Go.Proofs.YtdedkhifnecgkaaDoor.Base

/-- the number without a sign that stands for v -/
def zz (v : Int) : Nat := if 0 ≤ v then (2 * v).toNat else (-2 * v - 1).toNat
/-- and back -/
def un (n : Nat) : Int := if n % 2 = 0 then (n / 2 : Int) else -(n / 2 : Int) - 1

theorem zz_lt (v : Int) (h1 : -9223372036854775808 ≤ v) (h2 : v ≤ 9223372036854775807) : zz v < 18446744073709551616 := by
  unfold zz; split <;> omega
theorem un_zz (v : Int) : un (zz v) = v := by
  unfold zz un
  split <;> split <;> omega
theorem zz_un (n : Nat) : zz (un n) = n := by
  unfold un zz
  split <;> split <;> omega

theorem xor_ones64 (x : Nat) (h : x < 18446744073709551616) : bits BinOp.xor IntKind.u64 (x : Int) 18446744073709551615 = ((18446744073709551615 - x : Nat) : Int) := by
  rw [show (18446744073709551615 : Int) = ((18446744073709551615 : Nat) : Int) from rfl, u64_xor_nat _ _ h (by decide)]
  have := Poly.xor_all 64 x h
  congr 1

theorem uint_of (x : Int) (n : Nat) (hx : x = (n : Int)) (hn : n < 18446744073709551616) (w : World) :
    Calls Tryd.prog 15 #[.int .u64 x] w fun e w' => e = .returned (.string (uintS n)) ∧ Below w.heap.size w w' := by
  subst hx
  exact uint_any n hn w
theorem refUint_of (x : Int) (n : Nat) (hx : x = (n : Int)) (hn : n < 18446744073709551616) (w : World) :
    Calls Tryd.prog 16 #[.int .u64 x] w fun e w' => e = .returned (.string (uintS n)) ∧ Below w.heap.size w w' := by
  subst hx
  exact refUint_any n hn w

theorem enc_zz (v : Int) (h1 : -9223372036854775808 ≤ v) (h2 : v ≤ 9223372036854775807) :
    bits BinOp.xor IntKind.u64 (IntKind.u64.wrap (IntKind.u64.wrap v * 2)) (IntKind.u64.wrap (v / 9223372036854775808)) = (zz v : Int) := by
  unfold zz
  simp only [IntKind.wrap_u64]
  split
  · rw [show v / 9223372036854775808 = 0 from by omega, show v % 18446744073709551616 * 2 % 18446744073709551616 = ((2 * v).toNat : Int) from by omega,
      show (0 : Int) % 18446744073709551616 = ((0 : Nat) : Int) from by omega, u64_xor_nat _ _ (by omega) (by decide), Nat.xor_zero]
  · rw [show v / 9223372036854775808 = -1 from by omega, show (-1 : Int) % 18446744073709551616 = 18446744073709551615 from by omega,
      show v % 18446744073709551616 * 2 % 18446744073709551616 = ((2 * v + 18446744073709551616).toNat : Int) from by omega, xor_ones64 _ (by omega)]
    omega

theorem ref_zz0 (v : Int) (h : 0 ≤ v) (h2 : v ≤ 9223372036854775807) : IntKind.u64.wrap (IntKind.u64.wrap v * 2) = (zz v : Int) := by
  unfold zz
  rw [if_pos h]
  simp only [IntKind.wrap_u64]
  omega
theorem ref_zz1 (v : Int) (h : v < 0) (h1 : -9223372036854775808 ≤ v) :
    IntKind.u64.wrap (IntKind.u64.wrap (IntKind.u64.wrap (wrap64 (-wrap64 (v + 1))) * 2) + 1) = (zz v : Int) := by
  unfold zz
  rw [if_neg (by omega), IntWalk.wrap64_in (v + 1) (by omega), IntWalk.wrap64_in _ (by omega)]
  simp only [IntKind.wrap_u64]
  omega

theorem int_any (v : Int) (h1 : -9223372036854775808 ≤ v) (h2 : v ≤ 9223372036854775807) (w : World) :
    Calls Tryd.prog 19 #[.int .i64 v] w fun e w' => e = .returned (.string (uintS (zz v))) ∧ Below w.heap.size w w' := by
  have he := enc_zz v h1 h2
  have hz := zz_lt v h1 h2
  have HE := Lib.hid he
  have HZ := Lib.hid hz
  clear he hz h1 h2
  go_enter Tryd.func19, Tryd.ntmps19
  go_wp2_with (go_at_call 15; refine (uint_of _ _ HE.out HZ.out _).mono ?_; rintro e w' ⟨rfl, hB⟩)
  go_ret
  exact ⟨rfl, hB⟩
theorem refInt_any (v : Int) (h1 : -9223372036854775808 ≤ v) (h2 : v ≤ 9223372036854775807) (w : World) :
    Calls Tryd.prog 20 #[.int .i64 v] w fun e w' => e = .returned (.string (uintS (zz v))) ∧ Below w.heap.size w w' := by
  have hz := zz_lt v h1 h2
  have HZ := Lib.hid hz
  by_cases h : 0 ≤ v
  · have he := ref_zz0 v h h2
    have HE := Lib.hid he
    clear he hz h1 h2
    go_enter Tryd.func20, Tryd.ntmps20
    go_wp2_with (go_at_call 16; refine (refUint_of _ _ HE.out HZ.out _).mono ?_; rintro e w' ⟨rfl, hB⟩)
    go_ret
    exact ⟨rfl, hB⟩
  · have he := ref_zz1 v (by omega) h1
    have HE := Lib.hid he
    clear he hz h1 h2
    go_enter Tryd.func20, Tryd.ntmps20
    go_wp2_with (go_at_call 16; refine (refUint_of _ _ HE.out HZ.out _).mono ?_; rintro e w' ⟨rfl, hB⟩)
    go_ret
    exact ⟨rfl, hB⟩

theorem rdV_lt (s : ByteArray) (a : Int) : rdV s a < 18446744073709551616 := by
  by_cases h : a < 0 ∨ (s.size : Int) ≤ a
  · rw [rdV_err s a (by rw [rdE_out s a h]; decide)]
    decide
  · obtain ⟨b, rfl⟩ := Int.eq_ofNat_of_zero_le (show 0 ≤ a by omega)
    have hb : b < s.size := by omega
    obtain ⟨h1, h2, h3⟩ := kk_spec s b hb
    have hR := reads_of s b hb
    generalize kk s b = k at *
    generalize rdV s b = v at *
    generalize rdN s b = n at *
    generalize rdE s b = e at *
    cases hR with
    | short h => decide
    | bad _ _ => decide
    | good c1 c2 c3 c4 => exact Var.val_64 _ _ _ (by omega)

theorem i64_xor_m1 (a : Nat) (ha : a < 9223372036854775808) : bits .xor .i64 (a : Int) (-1) = -1 - (a : Int) := by
  show IntKind.i64.wrap ((BitVec.ofInt 64 (a : Int) ^^^ BitVec.ofInt 64 (-1)).toNat : Int) = _
  rw [BitVec.xor_comm]
  exact i64_not a ha
theorem i64_xor_0 (a : Nat) (ha : a < 9223372036854775808) : bits .xor .i64 (a : Int) 0 = (a : Int) := by
  show IntKind.i64.wrap ((BitVec.ofInt 64 (a : Int) ^^^ BitVec.ofInt 64 0).toNat : Int) = _
  have h1 : BitVec.ofInt 64 0 = 0#64 := by decide
  rw [h1, BitVec.xor_zero, BitVec.toNat_ofInt, IntKind.wrap_i64]
  omega

theorem read_un (V : Nat) (h : V < 18446744073709551616) :
    bits BinOp.xor IntKind.i64 (wrap64 ((V : Int) / 2)) (wrap64 (-wrap64 (bits BinOp.and IntKind.u64 (V : Int) 1))) = un V := by
  rw [show (1 : Int) = ((1 : Nat) : Int) from rfl, u64_and_nat _ _ h (by decide), nat_mask1, IntWalk.wrap64_in ((V : Int) / 2) (by omega), IntWalk.wrap64_in ((V % 2 : Nat) : Int) (by omega), IntWalk.wrap64_in _ (by omega)]
  unfold un
  rw [show (V : Int) / 2 = ((V / 2 : Nat) : Int) from by omega]
  split
  · rw [show -((V % 2 : Nat) : Int) = 0 from by omega, i64_xor_0 _ (by omega)]
  · rw [show -((V % 2 : Nat) : Int) = -1 from by omega, i64_xor_m1 _ (by omega)]
    omega
theorem ref_un0 (V : Nat) (h : V < 18446744073709551616) (h2 : V % 2 = 0) : wrap64 (IntKind.u64.wrap ((V : Int) / 2)) = un V := by
  unfold un
  rw [if_pos h2, IntKind.wrap_u64, IntWalk.wrap64_in _ (by omega)]
  omega
theorem ref_un1 (V : Nat) (h : V < 18446744073709551616) (h2 : V % 2 = 1) : wrap64 (wrap64 (-wrap64 (IntKind.u64.wrap ((V : Int) / 2))) - 1) = un V := by
  unfold un
  rw [if_neg (by omega), IntKind.wrap_u64, IntWalk.wrap64_in ((V : Int) / 2 % 18446744073709551616) (by omega), IntWalk.wrap64_in (-((V : Int) / 2 % 18446744073709551616)) (by omega), IntWalk.wrap64_in _ (by omega)]
  omega

theorem readInt_any (s : ByteArray) (a : Int) (hs : s.size ≤ 140737488351232) (w : World) :
    Calls Tryd.prog 17 #[.string s, .int .i64 a] w fun e' w' => e' = .returned (.tuple #[.int .i64 (un (rdV s a)), .int .i64 (rdN s a : Int), .int .i64 (rdE s a : Int)]) ∧ w = w' := by
  have hV := read_un _ (rdV_lt s a)
  have HV := Lib.hid hV
  clear hV
  go_enter Tryd.func17, Tryd.ntmps17
  go_wp2_with (go_at_call 12; refine (readUint_any s a hs _).mono ?_; rintro e w' ⟨rfl, rfl⟩)
  go_ret3
  exact ⟨ret_three HV.out rfl rfl, rfl⟩
theorem refReadInt_any (s : ByteArray) (a : Int) (hs : s.size ≤ 140737488351232) (w : World) :
    Calls Tryd.prog 18 #[.string s, .int .i64 a] w fun e' w' => e' = .returned (.tuple #[.int .i64 (un (rdV s a)), .int .i64 (rdN s a : Int), .int .i64 (rdE s a : Int)]) ∧ w = w' := by
  have hVl := rdV_lt s a
  have HC := Lib.hid (refReadUint_any s a hs)
  by_cases hE : rdE s a = 0
  · have hE0 : ((rdE s a : Int) != 0) = false := by simp [hE]
    have HE := Lib.hid hE
    rcases Nat.mod_two_eq_zero_or_one (rdV s a) with h2 | h2
    · have hV := ref_un0 _ hVl h2
      have HV := Lib.hid hV
      have hb : ((rdV s a : Int) % 2 == 1) = false := by simp; omega
      clear hE h2 hV hVl
      generalize rdV s a = V at *
      generalize rdN s a = N at *
      generalize rdE s a = E at *
      go_enter Tryd.func18, Tryd.ntmps18
      go_wp2_with (go_at_call 13; refine (HC.out _).mono ?_; rintro e w' ⟨rfl, rfl⟩)
      go_ret3
      exact ⟨ret_three HV.out rfl (by rw [HE.out]; rfl), rfl⟩
    · have hV := ref_un1 _ hVl h2
      have HV := Lib.hid hV
      have hb : ((rdV s a : Int) % 2 == 1) = true := by simp; omega
      clear hE h2 hV hVl
      generalize rdV s a = V at *
      generalize rdN s a = N at *
      generalize rdE s a = E at *
      go_enter Tryd.func18, Tryd.ntmps18
      go_wp2_with (go_at_call 13; refine (HC.out _).mono ?_; rintro e w' ⟨rfl, rfl⟩)
      go_ret3
      exact ⟨ret_three HV.out rfl (by rw [HE.out]; rfl), rfl⟩
  · have hE0 : ((rdE s a : Int) != 0) = true := by simp; omega
    have h1 : rdV s a = 0 := rdV_err s a hE
    have h2 : rdN s a = 0 := rdN_err s a hE
    rw [h1, h2] at HC
    rw [h1, h2]
    clear h1 h2 hVl hE
    generalize rdE s a = E at *
    go_enter Tryd.func18, Tryd.ntmps18
    go_wp2_with (go_at_call 13; refine (HC.out _).mono ?_; rintro e w' ⟨rfl, rfl⟩)
    go_ret3
    exact ⟨rfl, rfl⟩
end Go.Proofs.YtdedkhifnecgkaaDoor.Enc
