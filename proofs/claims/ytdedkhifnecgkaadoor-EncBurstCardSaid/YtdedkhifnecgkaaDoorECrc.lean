/-
  The sum: contracts of the document's answer (bit by bit) and of the program (by half bytes out of a table). Own text.
-/
import Derived.Test.YtdedkhifnecgkaaDoorELeaf
namespace Go.Proofs.YtdedkhifnecgkaaDoor.Enc
open Go.RowKit Go Go.Proofs.YtdedkhifnecgkaaDoor.Base

theorem reg_take (s : ByteArray) (j : Nat) (h : j < s.size) : Poly.reg Poly.ones ((nums s).take (j + 1)) = Poly.byte (Poly.reg Poly.ones ((nums s).take j)) (s[j]'h).toNat := by
  rw [List.take_add_one, nums_at s j h, Poly.reg_append]
  rfl
theorem reg_all (s : ByteArray) : (nums s).take s.size = nums s := List.take_of_length_le (by rw [nums_length]; exact Nat.le_refl _)
theorem reg_take_lt (s : ByteArray) (j : Nat) : Poly.reg Poly.ones ((nums s).take j) < 4294967296 :=
  Poly.reg_lt _ (fun x hx => nums_lt s x (List.mem_of_mem_take hx)) _ (by decide)

theorem xor_lt (a b : Nat) (ha : a < 4294967296) (hb : b < 4294967296) : a ^^^ b < 4294967296 := Nat.xor_lt_two_pow (n := 32) ha hb

theorem refCrc_big (s : ByteArray) (hs : s.size ≤ 281474976710656) (w : World) :
    Calls Tryd.prog 26 #[.string s] w fun e w' => e = .returned (.int .u32 (Poly.crc (nums s) : Int)) ∧ w = w' := by
  go_enter Tryd.func26, Tryd.ntmps26
  go_wp2_with fail
  go_loopg [3, 4] s.size (fun r c i wr => ∃ j x : Nat, Hid (j + r = s.size) ∧ j ≤ s.size ∧ i = .int .i64 (j : Int) ∧ c = .int .u32 (x : Int) ∧ x < 4294967296 ∧ Hid (x = Poly.reg Poly.ones ((nums s).take j)) ∧ wr = w)
  case atStart => exact ⟨0, Poly.ones, Nat.zero_add _, Nat.zero_le _, rfl, rfl, by decide, rfl, rfl⟩
  case round =>
    obtain ⟨j, x, hE, hj, rfl, rfl, hx, HX, rfl⟩ := hrel
    by_cases hlt : j < s.size
    · obtain ⟨b, hb⟩ : ∃ b, b = (s[j]'hlt).toNat := ⟨_, rfl⟩
      have hb8 : b < 256 := by rw [hb]; exact (s[j]'hlt).toNat_lt
      have hxor : bits BinOp.xor IntKind.u32 (x : Int) ((s[j]'hlt).toNat % 4294967296 : Int) = ((x ^^^ b : Nat) : Int) := by
        rw [← hb, Int.emod_eq_of_lt (by omega) (by omega), u32_xor_nat _ _ hx (by omega)]
      have HB := Lib.hid hb
      obtain ⟨y0, hy0⟩ : ∃ y0, y0 = x ^^^ b := ⟨_, rfl⟩
      have hy : y0 < 4294967296 := by rw [hy0]; exact xor_lt _ _ hx (by omega)
      rw [← hy0] at hxor
      have HY := Lib.hid hy0
      clear hb hy0
      obtain ⟨wo, hwo⟩ : ∃ wo : World, wo = wr := ⟨_, rfl⟩
      subst hwo
      go_wp2_with fail
      clear hxor
      go_loopg [3, 5] 8 (fun r c i wx => ∃ t z : Nat, Hid (t + r = 8) ∧ t ≤ 8 ∧ i = .int .i64 (t : Int) ∧ c = .int .u32 (z : Int) ∧ z < 4294967296 ∧ Hid (z = Poly.steps t y0) ∧ wx = wo)
      case atStart => exact ⟨0, y0, Nat.zero_add _, by omega, rfl, rfl, hy, rfl, rfl⟩
      case round =>
        obtain ⟨t, z, hEt, ht, rfl, rfl, hz, HZ, rfl⟩ := hrel
        clear hx hy
        by_cases hlk : t < 8
        · rcases Nat.mod_two_eq_zero_or_one z with h2 | h2
          · have h2i : (z : Int) % 2 = 0 := by omega
            have H2 := Lib.hid h2
            clear h2
            go_wp2_with fail
            go_roundg (8 - (t + 1))
            case measure => have := hEt.out; omega
            case rel => exact ⟨t + 1, z / 2, by show _ = _; omega, by omega, by go_num, by go_num, by omega, by show _ = _; rw [Poly.steps_succ, ← HZ.out, Poly.step_0 _ H2.out], rfl⟩
          · have h2i : (z : Int) % 2 = 1 := by omega
            have hp : bits BinOp.xor IntKind.u32 ((z : Int) / 2) 2197175160 = ((z / 2 ^^^ Poly.poly : Nat) : Int) := by
              rw [show (z : Int) / 2 = ((z / 2 : Nat) : Int) from by omega, show (2197175160 : Int) = ((Poly.poly : Nat) : Int) from rfl, u32_xor_nat _ _ (by omega) (by decide)]
            have H2 := Lib.hid h2
            obtain ⟨q, hq⟩ : ∃ q, q = z / 2 ^^^ Poly.poly := ⟨_, rfl⟩
            have hql : q < 4294967296 := by rw [hq]; exact xor_lt _ _ (by omega) (by decide)
            rw [← hq] at hp
            have HQ := Lib.hid hq
            clear h2 hq
            go_wp2_with fail
            go_roundg (8 - (t + 1))
            case measure => have := hEt.out; omega
            case rel => exact ⟨t + 1, q, by show _ = _; omega, by omega, by go_num, rfl, hql, by show _ = _; rw [Poly.steps_succ, ← HZ.out, Poly.step_1 _ H2.out, HQ.out], rfl⟩
        · obtain rfl : t = 8 := by omega
          go_wp2_with fail
          go_roundg (s.size - (j + 1))
          case measure => have := hE.out; omega
          case rel => exact ⟨j + 1, z, by show _ = _; omega, by omega, by go_num, rfl, hz, by show _ = _; rw [reg_take s j hlt, ← HX.out, ← HB.out, Poly.byte, ← HY.out, HZ.out], rfl⟩
    · obtain rfl : j = s.size := by omega
      have hp : bits BinOp.xor IntKind.u32 (x : Int) 4294967295 = ((x ^^^ Poly.ones : Nat) : Int) := by
        rw [show (4294967295 : Int) = ((Poly.ones : Nat) : Int) from rfl, u32_xor_nat _ _ hx (by decide)]
      go_wp2_with fail
      go_ret
      refine ⟨ret_int ?_, rfl⟩
      rw [Poly.crc, HX.out, reg_all]
theorem refCrc_any (s : ByteArray) (hs : s.size ≤ 140737488351232) (w : World) :
    Calls Tryd.prog 26 #[.string s] w fun e w' => e = .returned (.int .u32 (Poly.crc (nums s) : Int)) ∧ w = w' := refCrc_big s (by omega) w
end Go.Proofs.YtdedkhifnecgkaaDoor.Enc
