/-
  What the condition on the listed table gives; the witness's world; from a walk to a tied row. Own text.
-/
import Derived.Test.YtdedkhifnecgkaaDoorEProg
import Derived.Test.YtdedkhifnecgkaaDoorLaw
import Derived.Lib.LaidTab
import Derived.LaidMore
import Derived.OpenShut
import Derived.Stop.Joined
namespace Go.Proofs.YtdedkhifnecgkaaDoor.Enc
open Go.ChangeShapes Go.WideShapes Go.ChangeAt Go.RowKit Go Go.Proofs.YtdedkhifnecgkaaDoor.Law

/-- what the row lists -/
def listed : List (String × DataW Unit) := [("almanac/enc.remainders", Rows.laid_almanac_enc_remainders)]

theorem gTab : Tryd.prog.globalNamed "almanac/enc.remainders" = some 0 := by kernel_rfl
theorem tTab : (Tryd.prog.globals[0]?).map (·.type) = some 63 := by kernel_rfl
theorem cTab : Tryd.prog.cellsOf 63 = 16 := by kernel_rfl
theorem c32 : Tryd.prog.cellsOf 44 = 1 := by kernel_rfl

theorem tab_of_laid {W : World} (h : laidMetH Tryd.prog listed W) : Tab W := by
  unfold listed at h
  rw [MakeChecks.laidMetH_plain _ _ _ (by kernel_rfl)] at h
  have hT := Lib.tabIs_of_head (zs := [0, 274646895, 549293790, 820201905, 1098587580, 1361435347, 1640403810, 1905808397, 2197175160, 2460548119, 2722870694, 2987750089, 3280807620, 3553878443, 3811616794, 4084100981]) gTab tTab Tryd.underlying63 Tryd.underlying44 c32 cTab h
  intro i hi
  have hc := hT.cell gTab i hi
  rw [hc]
  have ht := congrArg (fun l => l[i]?) Poly.half_table
  simp only [List.getElem?_map, List.getElem?_range hi, Option.map_some] at ht
  have hall : ∀ j, j < 16 → ([0, 274646895, 549293790, 820201905, 1098587580, 1361435347, 1640403810, 1905808397, 2197175160, 2460548119, 2722870694, 2987750089, 3280807620, 3553878443, 3811616794, 4084100981] : List Int).getD j 0 = (([0, 274646895, 549293790, 820201905, 1098587580, 1361435347, 1640403810, 1905808397, 2197175160, 2460548119, 2722870694, 2987750089, 3280807620, 3553878443, 3811616794, 4084100981] : List Nat).getD j 0 : Int) := by decide
  rw [hall i hi, List.getD, ← ht]
  rfl

/-- the door's own heap meets the condition -/
theorem door_met (os : Os) (args : Array Value) : laidMetH Tryd.prog listed ((World.doorLaid Tryd.prog 400 os).forCall (fun _ _ => 0) ⟨#[], args, []⟩).memory :=
  laidMetH_of_parts3 (fuel := 8) (laidMet_of_run' 8 (by kernel_rfl) (by kernel_rfl)) (by kernel_rfl) (by kernel_rfl)
end Go.Proofs.YtdedkhifnecgkaaDoor.Enc
