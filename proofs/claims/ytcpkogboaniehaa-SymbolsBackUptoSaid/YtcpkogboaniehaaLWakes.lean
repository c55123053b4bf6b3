/-
  The closed law's helper 'wakes'. Own text.
-/
import Derived.Test.YtcpkogboaniehaaLSet
namespace Go.Proofs.Ytcpkogboaniehaa.Lab
open Go.RowKit Go Go.Proofs.Ytcpkogboaniehaa.Base Go.Shelf Go.Sort

def wB : Lab := ⟨⟨#[98]⟩, ⟨#[49]⟩⟩
def wA : Lab := ⟨⟨#[97]⟩, ⟨#[120]⟩⟩
theorem w_chk : chk [wB, wA] = 0 := by decide +kernel
theorem w_chk2 : chk [wA, wB] = 0 := by decide +kernel
theorem w_cmp : cmpS wA.n wB.n < 0 := by decide +kernel
theorem w_asc : Asc [wA, wB] := List.Pairwise.cons (fun x hx => by rw [List.mem_singleton.1 hx]; exact w_cmp) (List.pairwise_singleton _ _)
theorem w_sort : sortL [wB, wA] = [wA, wB] := sort_unique (List.Perm.swap _ _ _) (w_asc.imp asc_le)
theorem w_show : showS [wA, wB] = ⟨#[97, 61, 34, 120, 34, 44, 98, 61, 34, 49, 34]⟩ := by
  unfold showS
  rw [if_pos ((valid_iff _).2 ⟨w_chk2, w_asc⟩)]
  decide +kernel
theorem w_get : getV [wA, wB] ⟨#[98]⟩ = ⟨#[49]⟩ := by decide +kernel

end Go.Proofs.Ytcpkogboaniehaa.Lab
