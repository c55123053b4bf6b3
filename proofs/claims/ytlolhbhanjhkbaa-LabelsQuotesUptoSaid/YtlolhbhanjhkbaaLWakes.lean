/-
  The closed law's helper 'wakes'. Own text.
-/
import Derived.Test.YtlolhbhanjhkbaaLSet
namespace Go.Proofs.Ytlolhbhanjhkbaa.Lab
open Go.RowKit Go Go.Proofs.Ytlolhbhanjhkbaa.Base Go.Shelf Go.Sort

def wB : Lab := ⟨⟨#[98]⟩, ⟨#[49]⟩⟩
def wA : Lab := ⟨⟨#[97]⟩, ⟨#[120]⟩⟩
theorem w_chk : chk [wB, wA] = 0 := by decide +kernel
theorem w_chk2 : chk [wA, wB] = 0 := by decide +kernel
theorem w_cmp : cmpS wA.n wB.n < 0 := by decide +kernel
theorem w_asc : Asc [wA, wB] := List.Pairwise.cons (fun x hx => by rw [List.mem_singleton.1 hx]; exact w_cmp) (List.pairwise_singleton _ _)
theorem w_sort : sortL [wB, wA] = [wA, wB] := sort_unique (List.Perm.swap _ _ _) (w_asc.imp asc_le)
theorem w_show : showS [wA, wB] = ⟨#[97, 61, 34, 120, 34, 44, 98, 61, 34, 49, 34]⟩ := by
  unfold showS
  rw [if_pos ((valid_iff _).2 ⟨w_chk2, w_asc⟩)]
  decide +kernel
theorem w_get : getV [wA, wB] ⟨#[98]⟩ = ⟨#[49]⟩ := by decide +kernel

theorem w_showC (w : World) (ao : Option Addr) (cap : Nat) (hc : [wA, wB].length ≤ cap) (hL : LabsAt w ao [wA, wB]) :
    Calls Try.prog 31 #[.slice ao 2 cap] w fun e w' => e = .returned (.string ⟨#[97, 61, 34, 120, 34, 44, 98, 61, 34, 49, 34]⟩) ∧ Below w.heap.size w w' := by
  have h := show_any ao cap [wA, wB] w (by decide) hc hL
  rw [w_show] at h
  exact h
theorem w_getC (w1 : World) (ao : Option Addr) (cap : Nat) (hL : LabsAt w1 ao [wA, wB]) (w : World) (hb : Below w1.heap.size w1 w) :
    Calls Try.prog 23 #[.slice ao 2 cap, .string ⟨#[98]⟩] w fun e w' => e = .returned (.string ⟨#[49]⟩) ∧ Below w.heap.size w w' := by
  have h := get_any ao cap [wA, wB] ⟨#[98]⟩ w (by decide) (hL.below hb (Nat.le_refl _))
  rw [w_get] at h
  exact h

set_option maxRecDepth 100000 in
set_option maxHeartbeats 1000000 in
theorem wakes_any (w : World) : Calls Try.prog 17 #[] w fun e w' => e = .returned (.bool true) ∧ Below w.heap.size w w' := by
  obtain ⟨W, hW⟩ : ∃ W, W = w.alloc (.cells #[.string ⟨#[98]⟩, .string ⟨#[49]⟩, .string ⟨#[97]⟩, .string ⟨#[120]⟩] 62) := ⟨_, rfl⟩
  have hL : LabsAt W (some ⟨w.heap.size, 0, none⟩) [wB, wA] := by
    intro j hj
    refine ⟨w.heap.size, 0, rfl, by rw [hW, World.size_alloc]; omega, ?_, ?_⟩
    all_goals
      rw [hW]
      match j, hj with
      | 0, _ => exact cell_new rfl rfl
      | 1, _ => exact cell_new rfl rfl
  have hm := make_any (some ⟨w.heap.size, 0, none⟩) 2 [wB, wA] W (by decide) (by decide) hL
  unfold makeL at hm
  rw [w_chk, if_pos rfl, w_sort] at hm
  rw [hW] at hm
  have hb0 : Below w.heap.size w W := by rw [hW]; exact below_alloc _ _
  rw [hW] at hb0
  have HM := Lib.hid hm
  have HB0 := Lib.hid hb0
  clear hm hL hW hb0
  go_enter Try.func17, Try.ntmps17
  have t1 := str_eq (a := ⟨#[97]⟩) rfl
  have t2 := str_eq (a := ⟨#[97, 61, 34, 120, 34, 44, 98, 61, 34, 49, 34]⟩) rfl
  have t3 := str_eq (a := ⟨#[49]⟩) rfl
  go_wp2_with (first
    | (go_at_call 14; refine HM.out.mono ?_; rintro e w1 ⟨v, rfl, hown, hb1⟩; obtain ⟨ao, cap, rfl, hc1, hc2, hL1, _⟩ := labs_of_row hown; have HB1 := Lib.hid (le_below HB0.out hb1); have HSH := Lib.hid (w_showC w1 ao cap hc1 hL1); have HG := Lib.hid (w_getC w1 ao cap hL1); obtain ⟨b, off, rfl, hbb, q0, q1⟩ := hL1 0 (by decide); have q2 : w1.cell? ⟨b, off, none⟩ = some (.string ⟨#[97]⟩) := q0; clear hown hb1 hL1 hc1 hc2 q0 q1 hbb)
    | (go_at_call 31; refine HSH.out.mono ?_; rintro e w2 ⟨rfl, hb2⟩)
    | (go_at_call 23; refine (HG.out _ hb2).mono ?_; rintro e w3 ⟨rfl, hb3⟩))
  go_ret
  exact ⟨by first | rfl | exact ret_bool (by simp), le_below (le_below HB1.out hb2) hb3⟩
end Go.Proofs.Ytlolhbhanjhkbaa.Lab
