/-
  For every number, every number with a sign and every text, EncBack returns true, and all three read afterwards as they read before; the table almanac/enc.remainders holds what the program lays in it.
-/
import Derived.Test.YtdedkhifnecgkaaDoorELaid
import Derived.Test.YtdedkhifnecgkaaDoorEBack
import Derived.Test.YtdedkhifnecgkaaDoorCards
import Derived.Test.YtdedkhifnecgkaaDoorTie
import Derived.SevenTiedAt
import Derived.Lib.SmallJoins
namespace Go.Proofs.YtdedkhifnecgkaaDoor
open Go.ChangeShapes Go.WideShapes Go.ChangeAt Go.RowKit Go.Deep Go.Proofs.YtdedkhifnecgkaaDoor.Law Go.Proofs.YtdedkhifnecgkaaDoor.Enc
open Go.ChangeMaps (open_string)

theorem encBack_contract (H : Type) (enc : TypeId × Value → H) (W : World) (base : Nat) (args : Array Value) (ds gs : List (DataW H)) (before : List MemPlace)
    (hval : ∀ (j : Nat) t v, Tryd.f9.params[j]? = some t → args[j]? = some v → Value.okWide Tryd.prog W .any base t v)
    (hW : DataW.Whole enc Tryd.prog Tryd.f9.params.toList Rows.encBackSpec.vars false W args.toList ds gs before)
    (hz : (DataW.weightsEach Tryd.prog (Tryd.f9.params.toList ++ Rows.encBackSpec.plain.varTypes Tryd.prog) (ds ++ gs)).all (· ≤ reachBytes) = true) (hT : Tab W) :
    Calls Tryd.prog 9 args W fun e W' => ∃ v, e = .returned v ∧ Rows.encBackSpec.post enc Tryd.prog Tryd.f9 false true false false W args v W' := by
  have hW' := hW
  obtain ⟨p, q, hA0, hV, rfl, _, _⟩ := hW
  have hA : DataW.TrodAll enc Tryd.prog W 0 (fun _ => true) true Tryd.f9.params.toList args.toList ds p := hA0
  rw [Tryd.params9] at hA hval
  obtain ⟨a0, a1, a2, d0, d1, d2, p0, p1, p2, rfl, rfl, rfl, h0, h1, h2⟩ := trodAll_three hA
  obtain ⟨rfl, rfl⟩ := trodVars_none hV
  obtain ⟨v0, rfl, rfl, rfl, w0⟩ := open_int Tryd.underlying22 (hval 0 22 a0 rfl rfl) h0
  have b0 : 0 ≤ v0 ∧ v0 ≤ 18446744073709551615 := by simpa [Lit.wf, IntKind.min, IntKind.max, IntKind.signed, IntKind.bits] using w0
  obtain ⟨lo0, hi0⟩ := b0
  obtain ⟨v0, rfl⟩ := Int.eq_ofNat_of_zero_le lo0
  obtain ⟨v1, rfl, rfl, rfl, w1⟩ := open_int Tryd.underlying2 (hval 1 2 a1 rfl rfl) h1
  have b1 : -9223372036854775808 ≤ v1 ∧ v1 ≤ 9223372036854775807 := by simpa [Lit.wf, IntKind.min, IntKind.max, IntKind.signed, IntKind.bits] using w1
  obtain ⟨lo1, hi1⟩ := b1
  obtain ⟨v2, rfl, rfl, rfl, _⟩ := open_string Tryd.underlying9 (hval 2 9 a2 rfl rfl) h2
  have hs2 : v2.size ≤ 140737488351232 := by
    have h := sized_string hz (j := 2) (t := 9) (bytes := v2.data.toList) rfl rfl
    simpa [reachBytes] using h
  refine (back_walk v0 v1 v2 W (by omega) lo1 hi1 hs2 hT).mono fun e W' ⟨he, hb⟩ => ?_
  subst he
  exact ⟨_, rfl, law_post hW' rfl rfl Tryd.underlying4 laidOut (by kernel_rfl) rfl hb⟩

set_option maxRecDepth 100000 in
theorem encBack_lifted (os : Os) (started : os.Started) (H : Type) (enc : TypeId × Value → H) :
    ReturnsInHanded {} Tryd.checked os 9 .any (fun w args => (Rows.encBackSpec.pre enc Tryd.prog Tryd.f9 [] false w args ∧ laidMetH Tryd.prog listed w) ∧ sizedMet enc Tryd.prog Tryd.f9 (OpenSpec.ofChange Rows.encBackSpec) false w args)
      (Rows.encBackSpec.post enc Tryd.prog Tryd.f9 false true false false) := by
  refine returnsInHanded_of_change_and (C := Tryd.checked) (X := fun w _ => laidMetH Tryd.prog listed w) (fun _ _ _ hh h => h.of_heap hh) own started (by kernel_rfl) Tryd.func9
    (ChangeSpec.witness_shaped (enc := enc) (C := Tryd.checked) (os := os) (X := fun w _ => laidMetH Tryd.prog listed w) false (World.doorLaid Tryd.prog 400 os) #[.int .u64 0, .int .i64 0, .string ByteArray.empty] 8 rfl (World.shaped_of_RefB (by kernel_rfl) (by kernel_rfl)) (by kernel_rfl) (by kernel_rfl) (by kernel_rfl) (door_met os _)) ?_
  intro W base args ds gs before hval0 hW _ hz hL _
  exact encBack_contract H enc W base args ds gs before hval0 hW hz (tab_of_laid hL)

theorem encBack_row : Rows.EncBackSaid :=
  OpenClaim.holds_of_wide 9 Tryd.f9 rfl rfl rfl rfl rfl rfl rfl ⟨rfl, rfl, rfl, rfl, rfl⟩ rfl rfl rfl rfl rfl (by kernel_rfl) Tryd.func9 (by kernel_rfl)
    (of_decide_eq_true (by kernel_rfl)) (by unfold Func.isWrapper; first | (rw [if_pos (by decide +kernel)]; kernel_rfl) | (rw [if_neg (by decide +kernel)]; exact ⟨rfl, rfl⟩))
    (fun os started H enc _ => encBack_lifted os started H enc)

theorem encBack_holds : Rows.EncBackCardSaid :=
  Claim7.holds_tied_plain_at .later [] [.data] true Rows.encBackCard.stood.harness false
    encBack_row (fun _ h => by cases h) (by kernel_rfl) (fun _ h => by cases h) encBack_row_tie rfl ⟨rfl, rfl⟩ (by kernel_rfl) rfl
    (fun f fn hf hfn => by
      obtain rfl : f = 9 := Option.some.inj ((show Tryd.prog.funcNamed "almanac/almanaclaw02.EncBack" = some 9 by kernel_rfl).symm.trans hf) |>.symm
      obtain rfl : fn = Tryd.f9 := (Option.some.inj (Tryd.func9.symm.trans hfn)).symm
      exact ⟨by kernel_rfl, fun j t ht => by
        rw [Tryd.params9] at ht
        have hm : t ∈ [22, 2, 9] := by simpa using Array.mem_of_getElem? ht
        have hall : ([22, 2, 9].all fun u => !Tryd.prog.wantsStandIn u) = true := by kernel_rfl
        exact (show Tryd.prog.wantsStandIn t = false by simpa using List.all_eq_true.1 hall t hm)⟩)
    (by kernel_rfl)
end Go.Proofs.YtdedkhifnecgkaaDoor
