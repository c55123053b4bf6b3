/-
  The calls of package enc, and of the document's answer beside it, that call few others: four bytes of a number, a number of four bytes. Own text.
-/
import Derived.Test.YtdedkhifnecgkaaDoorBase
import Derived.Test.YtdedkhifnecgkaaDoorPoly
namespace Go.Proofs.YtdedkhifnecgkaaDoor.Enc
open Go.RowKit Go Go.Proofs.YtdedkhifnecgkaaDoor.Base

theorem conv_new (w : World) (l : List Nat) :
    (convert 61 9 (.slice (some ⟨w.heap.size, 0, none⟩) l.length l.length)).run Tryd.prog (w.alloc (.cells (u8s l).toArray 5)) = .ok (.string (strN l)) (w.alloc (.cells (u8s l).toArray 5)) := by
  rw [← strN_of]
  refine run_convert_bytes_arg _ 61 5 Tryd.underlying61 Tryd.underlying5 w.heap.size 0 l.length l.length (l.map fun (n : Nat) => (n : Int)) (by simp) ?_ 9 Tryd.underlying9
  intro i hi
  rw [World.cell?, heap_alloc_new]
  simp [u8s, List.getD, hi]

theorem conv_four (w : World) (v : Nat) (hv : v < 4294967296) :
    (convert 61 9 (.slice (some ⟨w.heap.size, 0, none⟩) 4 4)).run Tryd.prog (w.alloc (.cells #[.int .u8 ((v : Int) % 256), .int .u8 ((v : Int) / 256 % 256), .int .u8 ((v : Int) / 65536 % 256), .int .u8 ((v : Int) / 16777216)] 5)) =
      .ok (.string (strN (Poly.four v))) (w.alloc (.cells #[.int .u8 ((v : Int) % 256), .int .u8 ((v : Int) / 256 % 256), .int .u8 ((v : Int) / 65536 % 256), .int .u8 ((v : Int) / 16777216)] 5)) := by
  have h := conv_new w (Poly.four v)
  have e : (u8s (Poly.four v)).toArray = #[.int .u8 ((v : Int) % 256), .int .u8 ((v : Int) / 256 % 256), .int .u8 ((v : Int) / 65536 % 256), .int .u8 ((v : Int) / 16777216)] := by
    have e3 : v / 16777216 % 256 = v / 16777216 := Nat.mod_eq_of_lt (by omega)
    simp [u8s, Poly.four, e3]
  rw [e, Poly.four_length] at h
  exact h

theorem refFour_any (v : Nat) (hv : v < 4294967296) (w : World) :
    Calls Tryd.prog 38 #[.int .u32 (v : Int)] w fun e w' => e = .returned (.string (strN (Poly.four v))) ∧ Below w.heap.size w w' := by
  have hc := conv_four w v hv
  go_enter Tryd.func38, Tryd.ntmps38
  go_wp2
  go_ret
  exact ⟨rfl, below_alloc _ _⟩

theorem four_any (v : Nat) (hv : v < 4294967296) (w : World) :
    Calls Tryd.prog 37 #[.int .u32 (v : Int)] w fun e w' => e = .returned (.string (strN (Poly.four v))) ∧ Below w.heap.size w w' := by
  have hc := conv_four w v hv
  go_enter Tryd.func37, Tryd.ntmps37
  go_wp2
  go_ret
  exact ⟨rfl, below_alloc _ _⟩

/-- the number of the four bytes from a place on -/
def num (s : ByteArray) (a : Nat) : Nat := Poly.num4 (at8 s a) (at8 s (a + 1)) (at8 s (a + 2)) (at8 s (a + 3))
theorem num_lt (s : ByteArray) (a : Nat) : num s a < 4294967296 := Poly.num4_lt _ _ _ _ (at8_lt _ _) (at8_lt _ _) (at8_lt _ _) (at8_lt _ _)

theorem sum_of (a b c d : Nat) (ha : a < 256) (hb : b < 256) (hc : c < 256) (hd : d < 256) :
    wrap64 (wrap64 (wrap64 (wrap64 (a : Int) + wrap64 (wrap64 (b : Int) * 256)) + wrap64 (wrap64 (c : Int) * 65536)) + wrap64 (wrap64 (d : Int) * 16777216)) = (Poly.num4 a b c d : Int) := by
  rw [IntWalk.wrap64_in (a : Int) (by omega), IntWalk.wrap64_in (b : Int) (by omega), IntWalk.wrap64_in (c : Int) (by omega), IntWalk.wrap64_in (d : Int) (by omega)]
  rw [IntWalk.wrap64_in ((b : Int) * 256) (by omega), IntWalk.wrap64_in ((c : Int) * 65536) (by omega), IntWalk.wrap64_in ((d : Int) * 16777216) (by omega)]
  rw [IntWalk.wrap64_in ((a : Int) + (b : Int) * 256) (by omega)]
  rw [IntWalk.wrap64_in ((a : Int) + (b : Int) * 256 + (c : Int) * 65536) (by omega)]
  rw [IntWalk.wrap64_in _ (by omega)]
  unfold Poly.num4
  omega

theorem or_of (a b c d : Nat) (ha : a < 256) (hb : b < 256) (hc : c < 256) (hd : d < 256) :
    bits BinOp.or IntKind.u32 (bits BinOp.or IntKind.u32 (bits BinOp.or IntKind.u32 ((a : Int) % 4294967296) ((b : Int) % 4294967296 * 256 % 4294967296)) ((c : Int) % 4294967296 * 65536 % 4294967296)) ((d : Int) % 4294967296 * 16777216 % 4294967296) = (Poly.num4 a b c d : Int) := by
  have e0 : (a : Int) % 4294967296 = ((a : Nat) : Int) := by omega
  have e1 : (b : Int) % 4294967296 * 256 % 4294967296 = ((b * 256 : Nat) : Int) := by omega
  have e2 : (c : Int) % 4294967296 * 65536 % 4294967296 = ((c * 65536 : Nat) : Int) := by omega
  have e3 : (d : Int) % 4294967296 * 16777216 % 4294967296 = ((d * 16777216 : Nat) : Int) := by omega
  have h := Poly.num4_or a b c d ha hb hc
  have l1 : a ||| b * 256 < 2 ^ 32 := Nat.or_lt_two_pow (by omega) (by omega)
  have l2 : a ||| b * 256 ||| c * 65536 < 2 ^ 32 := Nat.or_lt_two_pow l1 (by omega)
  rw [e0, e1, e2, e3, u32_or_nat _ _ (by omega) (by omega), u32_or_nat _ _ (by omega) (by omega), u32_or_nat _ _ (by omega) (by omega), h]

theorem refNumber_any (s : ByteArray) (a : Nat) (h : a + 4 ≤ s.size) (hs : s.size ≤ 140737488351232) (w : World) :
    Calls Tryd.prog 40 #[.string s, .int .i64 (a : Int)] w fun e w' => e = .returned (.int .i64 (num s a : Int)) ∧ ∃ n, w' = w.drewN n := by
  have d0 : (a : Int) < (s.size : Int) := by omega
  have d1 : IntKind.i64.wrap ((a : Int) + 1) = (a : Int) + 1 := IntWalk.i64_in _ (by omega)
  have d2 : IntKind.i64.wrap ((a : Int) + 2) = (a : Int) + 2 := IntWalk.i64_in _ (by omega)
  have d3 : IntKind.i64.wrap ((a : Int) + 3) = (a : Int) + 3 := IntWalk.i64_in _ (by omega)
  have e1 : (a : Int) + 1 < (s.size : Int) := by omega
  have e2 : (a : Int) + 2 < (s.size : Int) := by omega
  have e3 : (a : Int) + 3 < (s.size : Int) := by omega
  have f1 : 0 ≤ (a : Int) + 1 := by omega
  have f2 : 0 ≤ (a : Int) + 2 := by omega
  have f3 : 0 ≤ (a : Int) + 3 := by omega
  have g1 : ((a : Int) + 1).toNat = a + 1 := by omega
  have g2 : ((a : Int) + 2).toNat = a + 2 := by omega
  have g3 : ((a : Int) + 3).toNat = a + 3 := by omega
  go_enter Tryd.func40, Tryd.ntmps40
  go_wp2_with fail
  go_quiet (fail)
  go_wp2
  go_ret
  refine ⟨ret_int ?_, _, rfl⟩
  unfold num
  rw [at8_eq s a (by omega), at8_eq s (a + 1) (by omega), at8_eq s (a + 2) (by omega), at8_eq s (a + 3) (by omega)]
  exact sum_of _ _ _ _ (s[a]'(by omega)).toNat_lt (s[a + 1]'(by omega)).toNat_lt (s[a + 2]'(by omega)).toNat_lt (s[a + 3]'(by omega)).toNat_lt
theorem readFour_any (s : ByteArray) (h : 4 ≤ s.size) (hs : s.size ≤ 140737488351232) (w : World) :
    Calls Tryd.prog 39 #[.string s] w fun e w' => e = .returned (.int .u32 (num s 0 : Int)) ∧ ∃ n, w' = w.drewN n := by
  have d0 : 0 < s.size := by omega
  have d1 : 1 < s.size := by omega
  have d2 : 2 < s.size := by omega
  have d3 : 3 < s.size := by omega
  have f0 : (0 : Int) < (s.size : Int) := by omega
  have f1 : (1 : Int) < (s.size : Int) := by omega
  have f2 : (2 : Int) < (s.size : Int) := by omega
  have f3 : (3 : Int) < (s.size : Int) := by omega
  go_enter Tryd.func39, Tryd.ntmps39
  go_wp2_with fail
  go_quiet (fail)
  go_wp2
  go_ret
  refine ⟨ret_int ?_, _, rfl⟩
  unfold num
  rw [at8_eq s 0 d0, at8_eq s 1 d1, at8_eq s 2 d2, at8_eq s 3 d3]
  exact or_of _ _ _ _ (s[0]'d0).toNat_lt (s[1]'d1).toNat_lt (s[2]'d2).toNat_lt (s[3]'d3).toNat_lt
end Go.Proofs.YtdedkhifnecgkaaDoor.Enc
