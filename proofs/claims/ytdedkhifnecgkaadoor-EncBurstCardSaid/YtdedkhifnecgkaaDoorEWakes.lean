/-
  The closed law's helper 'wakes'. Own text.
-/
import Derived.Test.YtdedkhifnecgkaaDoorERefF
import Derived.Test.YtdedkhifnecgkaaDoorEText
namespace Go.Proofs.YtdedkhifnecgkaaDoor.Enc
open Go.RowKit Go Go.Proofs.YtdedkhifnecgkaaDoor.Base

theorem w_frame : frS ⟨#[97]⟩ = ⟨#[1, 0, 0, 0, 97, 48, 67, 208, 193, 1]⟩ ∧ frE ⟨#[97]⟩ = 0 := by decide +kernel
theorem w_uint : uintS 300 = ⟨#[172, 2]⟩ := by decide +kernel
theorem w_int : uintS (zz (-1)) = ⟨#[1]⟩ := by decide +kernel
/-- two texts -/
def two (a b : ByteArray) : Nat → ByteArray
  | 0 => a
  | _ => b
theorem w_crc : Poly.crc (cat (two ⟨#[49, 50, 51, 52]⟩ ⟨#[53, 54, 55, 56, 57]⟩) 2) = 3808858755 := by decide +kernel

theorem cells_new (w : World) (a b : Value) (t : TypeId) : (w.alloc (.cells #[a, b] t)).cell? ⟨w.heap.size, 0, none⟩ = some a ∧ (w.alloc (.cells #[a, b] t)).cell? ⟨w.heap.size, 1, none⟩ = some b := by
  rw [World.cell?, World.cell?, heap_alloc_new]
  exact ⟨rfl, rfl⟩

theorem wakes_any (w : World) (hT : Tab w) : Calls Tryd.prog 14 #[] w fun e w' => e = .returned (.bool true) ∧ Below w.heap.size w w' := by
  have hf : Calls Tryd.prog 27 #[.string ⟨#[97]⟩] w fun e w' => e = .returned (.tuple #[.string ⟨#[1, 0, 0, 0, 97, 48, 67, 208, 193, 1]⟩, .int .i64 0]) ∧ Below w.heap.size w w' := by
    have h := frame_any ⟨#[97]⟩ (by decide) w hT
    rw [w_frame.1, w_frame.2] at h
    exact h
  have hu : ∀ W : World, Calls Tryd.prog 15 #[.int .u64 300] W fun e w' => e = .returned (.string ⟨#[172, 2]⟩) ∧ Below W.heap.size W w' := fun W => by
    have h := uint_any 300 (by decide) W
    rw [w_uint] at h
    exact h
  have hi : ∀ W : World, Calls Tryd.prog 19 #[.int .i64 (-1)] W fun e w' => e = .returned (.string ⟨#[1]⟩) ∧ Below W.heap.size W w' := fun W => by
    have h := int_any (-1) (by decide) (by decide) W
    rw [w_int] at h
    exact h
  have hc : ∀ W : World, Tab W → Calls Tryd.prog 25 #[.slice (some ⟨W.heap.size, 0, none⟩) 2 2] (W.alloc (.cells #[.string ⟨#[49, 50, 51, 52]⟩, .string ⟨#[53, 54, 55, 56, 57]⟩] 9)) fun e w' => e = .returned (.int .u32 3808858755) ∧ ∃ n, w' = (W.alloc (.cells #[.string ⟨#[49, 50, 51, 52]⟩, .string ⟨#[53, 54, 55, 56, 57]⟩] 9)).drewN n := fun W hW => by
    have hcs := cells_new W (.string ⟨#[49, 50, 51, 52]⟩) (.string ⟨#[53, 54, 55, 56, 57]⟩) 9
    have h := crc_any (ao := some ⟨W.heap.size, 0, none⟩) (len := 2) (cap := 2) (ps := two ⟨#[49, 50, 51, 52]⟩ ⟨#[53, 54, 55, 56, 57]⟩) (W.alloc (.cells #[.string ⟨#[49, 50, 51, 52]⟩, .string ⟨#[53, 54, 55, 56, 57]⟩] 9)) (hW.alloc _) (fun j hj => by
      refine ⟨W.heap.size, 0, rfl, by simp, ?_, ?_⟩
      · match j, hj with
        | 0, _ => exact hcs.1
        | 1, _ => exact hcs.2
      · match j, hj with
        | 0, _ => decide
        | 1, _ => decide) (by decide)
    rw [w_crc] at h
    exact h
  have HF := Lib.hid hf
  have HU := Lib.hid hu
  have HI := Lib.hid hi
  have HC := Lib.hid hc
  have HT := Lib.hid hT
  clear hf hu hi hc hT
  go_enter Tryd.func14, Tryd.ntmps14
  go_wp2_with (go_at_call 27; refine HF.out.mono ?_; rintro e w1 ⟨rfl, h1⟩)
  go_wp2_with (go_at_call 15; refine (HU.out _).mono ?_; rintro e w2 ⟨rfl, h2⟩)
  go_wp2_with (go_at_call 19; refine (HI.out _).mono ?_; rintro e w3 ⟨rfl, h3⟩)
  have h13 := below_then (below_then h1 h2) h3
  have HT3 := Lib.hid (HT.out.below h13 (Nat.le_refl _))
  go_wp2_with (go_at_call 25; refine (HC.out _ HT3.out).mono ?_; rintro e w4 ⟨rfl, n, rfl⟩)
  go_ret
  exact ⟨rfl, below_drewN (below_then h13 (below_alloc _ _)) _⟩
end Go.Proofs.YtdedkhifnecgkaaDoor.Enc
