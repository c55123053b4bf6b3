/-
  The program's sum: contract. Own text.
-/
import Derived.Test.YtdedkhifnecgkaaDoorECrc
namespace Go.Proofs.YtdedkhifnecgkaaDoor.Enc
open Go.RowKit Go Go.Proofs.YtdedkhifnecgkaaDoor.Base

/-- the table, as it lies in memory -/
def Tab (w : World) : Prop := ∀ i, i < 16 → w.cell? ⟨0, i, none⟩ = some (.int .u32 (Poly.half i : Int))

theorem Tab.below {w w' : World} {B : Nat} (h : Tab w) (hb : Below B w w') (hB : w.heap.size ≤ B) : Tab w' := fun i hi => by
  have hlt : 0 < w.heap.size := World.block_lt_of_cell? w _ (h i hi)
  rw [hb.cell (p := ⟨0, i, none⟩) (Nat.lt_of_lt_of_le hlt hB)]
  exact h i hi
theorem Tab.drewN {w : World} (h : Tab w) (n : Nat) : Tab (w.drewN n) := fun i hi => h i hi

/-- texts, one behind the other -/
def cat (ps : Nat → ByteArray) : Nat → List Nat
  | 0 => []
  | k + 1 => cat ps k ++ nums (ps k)

theorem cat_lt (ps : Nat → ByteArray) (k : Nat) : ∀ x ∈ cat ps k, x < 256 := by
  induction k with
  | zero => intro x hx; cases hx
  | succ k ih =>
    intro x hx
    rcases List.mem_append.1 hx with h | h
    · exact ih x h
    · exact nums_lt _ x h

/-- the cells of a list of texts (nil: it is empty) -/
def TextsAt (w : World) (ao : Option Addr) (len : Nat) (ps : Nat → ByteArray) : Prop :=
  ∀ j, j < len → ∃ b off, ao = some ⟨b, off, none⟩ ∧ b < w.heap.size ∧ w.cell? ⟨b, off + j, none⟩ = some (.string (ps j)) ∧ (ps j).size ≤ 281474976710656

theorem mask15 (x : Nat) (hx : x < 4294967296) : bits BinOp.and IntKind.u32 (x : Int) 15 = ((x % 16 : Nat) : Int) := by
  rw [show (15 : Int) = ((15 : Nat) : Int) from rfl, u32_and_nat _ _ hx (by decide), show (15 : Nat) = 2 ^ 4 - 1 from rfl, Nat.and_two_pow_sub_one_eq_mod]

theorem half_lt (k : Nat) (h : k < 16) : Poly.half k < 4294967296 := Poly.steps_lt 4 k (by omega)

set_option maxHeartbeats 400000 in
theorem crc_any {ao : Option Addr} {len cap : Nat} {ps : Nat → ByteArray} (w : World) (hT : Tab w) (hP : TextsAt w ao len ps) (hl : len ≤ 140737488351232) :
    Calls Tryd.prog 25 #[.slice ao len cap] w fun e w' => e = .returned (.int .u32 (Poly.crc (cat ps len) : Int)) ∧ ∃ n, w' = w.drewN n := by
  have HT := Lib.hid hT
  have HP := Lib.hid hP
  clear hT hP
  go_enter Tryd.func25, Tryd.ntmps25
  go_wp2_with fail
  go_loopg [3, 11] len (fun r c i wr => ∃ j x n : Nat, Hid (j + r = len) ∧ j ≤ len ∧ i = .int .i64 (j : Int) ∧ c = .int .u32 (x : Int) ∧ x < 4294967296 ∧ Hid (x = Poly.reg Poly.ones (cat ps j)) ∧ wr = w.drewN n)
  case atStart => exact ⟨0, Poly.ones, 0, Nat.zero_add _, Nat.zero_le _, rfl, rfl, by decide, rfl, rfl⟩
  case round =>
    obtain ⟨j, x, n, hE, hj, rfl, rfl, hx, HX, rfl⟩ := hrel
    by_cases hlt : j < len
    · obtain ⟨b, off, rfl, hb, hcell, hps⟩ := HP.out j hlt
      obtain ⟨s, hs⟩ : ∃ s, s = ps j := ⟨_, rfl⟩
      rw [← hs] at hcell hps
      have HS := Lib.hid hs
      clear hs
      go_wp2_with fail
      go_loopg [3, 17] s.size (fun r c i wx => ∃ k z m : Nat, Hid (k + r = s.size) ∧ k ≤ s.size ∧ i = .int .i64 (k : Int) ∧ c = .int .u32 (z : Int) ∧ z < 4294967296 ∧ Hid (z = Poly.reg x ((nums s).take k)) ∧ wx = w.drewN m)
      case atStart => exact ⟨0, x, n, Nat.zero_add _, by omega, rfl, rfl, hx, rfl, rfl⟩
      case round =>
        obtain ⟨k, z, m, hEk, hk, rfl, rfl, hz, HZ, rfl⟩ := hrel
        clear hx hcell
        by_cases hlk : k < s.size
        · obtain ⟨b8, hb8⟩ : ∃ b8, b8 = (s[k]'hlk).toNat := ⟨_, rfl⟩
          have hbl : b8 < 256 := by rw [hb8]; exact (s[k]'hlk).toNat_lt
          have HB := Lib.hid hb8
          clear hb8
          go_upto_region 8 with (fail)
          go_cut [7, 8] (fun u v wx => u = .int .u32 (b8 : Int) ∧ v = .int .u32 ((b8 / 16 : Nat) : Int) ∧ ∃ m, wx = w.drewN m)
          case first =>
            go_quiet (fail)
            go_wp2_with fail
            go_meet
            refine ⟨val_int ?_, val_int ?_, _, World.drewN_drewN _ _ _⟩
            · rw [← HB.out]; omega
            · rw [← HB.out]; omega
          case rest =>
            obtain ⟨rfl, rfl, m2, rfl⟩ := hcut
            obtain ⟨y, hy⟩ : ∃ y, y = z ^^^ b8 := ⟨_, rfl⟩
            have hyl : y < 4294967296 := by rw [hy]; exact xor_lt _ _ hz (by omega)
            have a1 : bits BinOp.xor IntKind.u32 (z : Int) (b8 : Int) = (y : Int) := by rw [hy, u32_xor_nat _ _ hz (by omega)]
            obtain ⟨i1, hi1⟩ : ∃ i1, i1 = y % 16 := ⟨_, rfl⟩
            have hil : i1 < 16 := by omega
            have a2 : bits BinOp.and IntKind.u32 (y : Int) 15 = (i1 : Int) := by rw [hi1, mask15 _ hyl]
            obtain ⟨h1, hh1⟩ : ∃ h1, h1 = Poly.half i1 := ⟨_, rfl⟩
            have hhl : h1 < 4294967296 := by rw [hh1]; exact half_lt _ hil
            have q1 := HT.out i1 hil
            rw [← hh1] at q1
            obtain ⟨z2, hz2⟩ : ∃ z2, z2 = z / 16 ^^^ h1 := ⟨_, rfl⟩
            have hz2l : z2 < 4294967296 := by rw [hz2]; exact xor_lt _ _ (by omega) hhl
            have a3 : bits BinOp.xor IntKind.u32 ((z : Int) / 16) (h1 : Int) = (z2 : Int) := by
              rw [show (z : Int) / 16 = ((z / 16 : Nat) : Int) from by omega, u32_xor_nat _ _ (by omega) hhl, hz2]
            obtain ⟨y', hy'⟩ : ∃ y', y' = z2 ^^^ b8 / 16 := ⟨_, rfl⟩
            have hyl' : y' < 4294967296 := by rw [hy']; exact xor_lt _ _ hz2l (by omega)
            have b1 : bits BinOp.xor IntKind.u32 (z2 : Int) ((b8 : Int) / 16) = (y' : Int) := by
              rw [show (b8 : Int) / 16 = ((b8 / 16 : Nat) : Int) from by omega, u32_xor_nat _ _ hz2l (by omega), hy']
            obtain ⟨i2, hi2⟩ : ∃ i2, i2 = y' % 16 := ⟨_, rfl⟩
            have hil2 : i2 < 16 := by omega
            have b2 : bits BinOp.and IntKind.u32 (y' : Int) 15 = (i2 : Int) := by rw [hi2, mask15 _ hyl']
            obtain ⟨h2, hh2⟩ : ∃ h2, h2 = Poly.half i2 := ⟨_, rfl⟩
            have hhl2 : h2 < 4294967296 := by rw [hh2]; exact half_lt _ hil2
            have q2 := HT.out i2 hil2
            rw [← hh2] at q2
            obtain ⟨z3, hz3⟩ : ∃ z3, z3 = z2 / 16 ^^^ h2 := ⟨_, rfl⟩
            have hz3l : z3 < 4294967296 := by rw [hz3]; exact xor_lt _ _ (by omega) hhl2
            have b3 : bits BinOp.xor IntKind.u32 ((z2 : Int) / 16) (h2 : Int) = (z3 : Int) := by
              rw [show (z2 : Int) / 16 = ((z2 / 16 : Nat) : Int) from by omega, u32_xor_nat _ _ (by omega) hhl2, hz3]
            have hstep : z3 = Poly.byte z b8 := by
              rw [Poly.byte_halves z b8 hbl, hz3, hh2, hi2, hy', hz2, hh1, hi1, hy]
            have HS3 := Lib.hid hstep
            clear hstep hy hi1 hh1 hz2 hy' hi2 hh2 hz3
            go_wp2_with fail
            go_roundg (s.size - (k + 1))
            case measure => have := hEk.out; omega
            case rel =>
              refine ⟨k + 1, z3, m2, by show _ = _; omega, by omega, by go_num, rfl, hz3l, ?_, rfl⟩
              show _ = _
              rw [List.take_add_one, nums_at s k hlk, Poly.reg_append, ← HZ.out, HS3.out, HB.out]
              rfl
        · obtain rfl : k = s.size := by omega
          go_wp2_with fail
          go_roundg (len - (j + 1))
          case measure => have := hE.out; omega
          case rel => exact ⟨j + 1, z, m, by show _ = _; omega, by omega, by go_num, rfl, hz, by show _ = _; rw [cat, Poly.reg_append, ← HS.out, ← HX.out, HZ.out, reg_all], rfl⟩
    · obtain rfl : j = len := by omega
      have hp : bits BinOp.xor IntKind.u32 IntKind.u32.max (x : Int) = ((x ^^^ Poly.ones : Nat) : Int) := by
        rw [show (IntKind.u32.max : Int) = ((Poly.ones : Nat) : Int) from rfl, u32_xor_nat _ _ (by decide) hx, Nat.xor_comm]
      go_wp2_with fail
      go_ret
      refine ⟨ret_int ?_, _, rfl⟩
      rw [Poly.crc, ← HX.out]
end Go.Proofs.YtdedkhifnecgkaaDoor.Enc
