/-
  For every text, place and mask, EncBurst returns true, and they read afterwards as they read before; the table almanac/enc.remainders holds what the program lays in it.
-/
import Derived.Test.YtdedkhifnecgkaaDoorELaid
import Derived.Test.YtdedkhifnecgkaaDoorEBurstW
import Derived.Test.YtdedkhifnecgkaaDoorCards
import Derived.Test.YtdedkhifnecgkaaDoorTie
import Derived.SevenTiedAt
import Derived.Lib.SmallJoins
namespace Go.Proofs.YtdedkhifnecgkaaDoor
open Go.ChangeShapes Go.WideShapes Go.ChangeAt Go.RowKit Go.Deep Go.Proofs.YtdedkhifnecgkaaDoor.Law Go.Proofs.YtdedkhifnecgkaaDoor.Enc

theorem encBurst_contract (H : Type) (enc : TypeId × Value → H) (W : World) (base : Nat) (args : Array Value) (ds gs : List (DataW H)) (before : List MemPlace)
    (hval : ∀ (j : Nat) t v, Tryd.f11.params[j]? = some t → args[j]? = some v → Value.okWide Tryd.prog W .any base t v)
    (hW : DataW.Whole enc Tryd.prog Tryd.f11.params.toList Rows.encBurstSpec.vars false W args.toList ds gs before)
    (hz : (DataW.weightsEach Tryd.prog (Tryd.f11.params.toList ++ Rows.encBurstSpec.plain.varTypes Tryd.prog) (ds ++ gs)).all (· ≤ reachBytes) = true) (hT : Tab W) :
    Calls Tryd.prog 11 args W fun e W' => ∃ v, e = .returned v ∧ Rows.encBurstSpec.post enc Tryd.prog Tryd.f11 false true false false W args v W' := by
  have hW' := hW
  obtain ⟨p, q, hA0, hV, rfl, _, _⟩ := hW
  have hA : DataW.TrodAll enc Tryd.prog W 0 (fun _ => true) true Tryd.f11.params.toList args.toList ds p := hA0
  rw [Tryd.params11] at hA hval
  obtain ⟨a0, d0, rfl, rfl, h0⟩ := trodAll_one hA
  obtain ⟨rfl, rfl⟩ := trodVars_none hV
  obtain ⟨v0, v1, v2, y0, y1, y2, n, rfl, rfl, _, t0, t1, t2⟩ := Joins.open_agg3 Tryd.underlying56 (by kernel_rfl) (by kernel_rfl) (hval 0 56 a0 rfl rfl) h0
  obtain ⟨T, e0, x0, _⟩ := DataW.trod_string Tryd.underlying9 t0
  obtain ⟨A, e1, x1, w1⟩ := DataW.trod_int Tryd.underlying3 t1
  obtain ⟨M, e2, x2, w2⟩ := DataW.trod_int Tryd.underlying44 t2
  simp only [List.cons.injEq, and_true] at e0 e1 e2
  subst e0 e1 e2 x0 x1 x2
  have b2 : 0 ≤ M ∧ M ≤ 4294967295 := by simpa [Lit.wf, IntKind.min, IntKind.max, IntKind.signed, IntKind.bits] using w2
  obtain ⟨lo, hi⟩ := b2
  obtain ⟨M, rfl⟩ := Int.eq_ofNat_of_zero_le lo
  have hs : T.size ≤ 140737488351232 := by
    have hmem : T.data.toList.length ∈ DataW.weightsEach Tryd.prog (Tryd.f11.params.toList ++ Rows.encBurstSpec.plain.varTypes Tryd.prog) ([(DataW.agg (H := H) [.lit (.string T.data.toList), .lit (.int .i64 A), .lit (.int .u32 (M : Int))])] ++ []) := by
      refine DataW.weights_mem_each (j := 0) (t := 56) (d := .agg [.lit (.string T.data.toList), .lit (.int .i64 A), .lit (.int .u32 (M : Int))]) rfl rfl _ ?_
      simp [DataW.weights, DataW.weightsEach, Tryd.underlying56]
    have h2 := of_decide_eq_true (List.all_eq_true.1 hz _ hmem)
    simpa [reachBytes] using h2
  refine (burst_walk T A M W hs (by omega) hT).mono fun e W' ⟨he, hb⟩ => ?_
  subst he
  exact ⟨_, rfl, law_post hW' rfl rfl Tryd.underlying4 laidOut (by kernel_rfl) rfl hb⟩

set_option maxRecDepth 100000 in
theorem encBurst_lifted (os : Os) (started : os.Started) (H : Type) (enc : TypeId × Value → H) :
    ReturnsInHanded {} Tryd.checked os 11 .any (fun w args => (Rows.encBurstSpec.pre enc Tryd.prog Tryd.f11 [] false w args ∧ laidMetH Tryd.prog listed w) ∧ sizedMet enc Tryd.prog Tryd.f11 (OpenSpec.ofChange Rows.encBurstSpec) false w args)
      (Rows.encBurstSpec.post enc Tryd.prog Tryd.f11 false true false false) := by
  refine returnsInHanded_of_change_and (C := Tryd.checked) (X := fun w _ => laidMetH Tryd.prog listed w) (fun _ _ _ hh h => h.of_heap hh) own started (by kernel_rfl) Tryd.func11
    (ChangeSpec.witness_shaped (enc := enc) (C := Tryd.checked) (os := os) (X := fun w _ => laidMetH Tryd.prog listed w) false (World.doorLaid Tryd.prog 400 os) #[.agg #[.string ByteArray.empty, .int .i64 0, .int .u32 0]] 8 rfl (World.shaped_of_RefB (by kernel_rfl) (by kernel_rfl)) (by kernel_rfl) (by kernel_rfl) (by kernel_rfl) (door_met os _)) ?_
  intro W base args ds gs before hval0 hW _ hz hL _
  exact encBurst_contract H enc W base args ds gs before hval0 hW hz (tab_of_laid hL)

theorem encBurst_row : Rows.EncBurstSaid :=
  OpenClaim.holds_of_wide 11 Tryd.f11 rfl rfl rfl rfl rfl rfl rfl ⟨rfl, rfl, rfl, rfl, rfl⟩ rfl rfl rfl rfl rfl (by kernel_rfl) Tryd.func11 (by kernel_rfl)
    (of_decide_eq_true (by kernel_rfl)) (by unfold Func.isWrapper; first | (rw [if_pos (by decide +kernel)]; kernel_rfl) | (rw [if_neg (by decide +kernel)]; exact ⟨rfl, rfl⟩))
    (fun os started H enc _ => encBurst_lifted os started H enc)

theorem encBurst_holds : Rows.EncBurstCardSaid :=
  Claim7.holds_tied_plain_at .later [] [.data] true Rows.encBurstCard.stood.harness false
    encBurst_row (fun _ h => by cases h) (by kernel_rfl) (fun _ h => by cases h) encBurst_row_tie rfl ⟨rfl, rfl⟩ (by kernel_rfl) rfl
    (fun f fn hf hfn => by
      obtain rfl : f = 11 := Option.some.inj ((show Tryd.prog.funcNamed "almanac/almanaclaw02.EncBurst" = some 11 by kernel_rfl).symm.trans hf) |>.symm
      obtain rfl : fn = Tryd.f11 := (Option.some.inj (Tryd.func11.symm.trans hfn)).symm
      exact ⟨by kernel_rfl, fun j t ht => by
        rw [Tryd.params11] at ht
        have hm : t ∈ [56] := by simpa using Array.mem_of_getElem? ht
        have hall : ([56].all fun u => !Tryd.prog.wantsStandIn u) = true := by kernel_rfl
        exact (show Tryd.prog.wantsStandIn t = false by simpa using List.all_eq_true.1 hall t hm)⟩)
    (by kernel_rfl)
end Go.Proofs.YtdedkhifnecgkaaDoor
