/-
  For every list of texts, nil or not, EncSums returns true, and the list and its texts read afterwards as they read before; the table almanac/enc.remainders holds what the program lays in it.
-/
import Derived.Test.YtdedkhifnecgkaaDoorELaid
import Derived.Test.YtdedkhifnecgkaaDoorESums
import Derived.Test.YtdedkhifnecgkaaDoorCards
import Derived.Test.YtdedkhifnecgkaaDoorTie
import Derived.SevenTiedAt
import Derived.Lib.SmallJoins
import Derived.Deep.Strs
namespace Go.Proofs.YtdedkhifnecgkaaDoor
open Go.ChangeShapes Go.WideShapes Go.ChangeAt Go.RowKit Go.Deep Go.Proofs.YtdedkhifnecgkaaDoor.Law Go.Proofs.YtdedkhifnecgkaaDoor.Enc

theorem bytes_text : Tryd.prog.bytesOf 9 = 16 := by kernel_rfl

theorem weights_in {H : Type} {P : Program} {e : TypeId} : ∀ {l : List (DataW H)} {d : DataW H}, d ∈ l → ∀ n ∈ d.weights P e, n ∈ DataW.weightsAll P e l := by
  intro l
  induction l with
  | nil => intro d hd; cases hd
  | cons x l ih =>
    intro d hd n hn
    simp only [DataW.weightsAll, List.mem_append]
    rcases List.mem_cons.1 hd with rfl | hd
    · exact Or.inl hn
    · exact Or.inr (ih hd n hn)

theorem encSums_contract (H : Type) (enc : TypeId × Value → H) (W : World) (base : Nat) (args : Array Value) (ds gs : List (DataW H)) (before : List MemPlace)
    (hval : ∀ (j : Nat) t v, Tryd.f6.params[j]? = some t → args[j]? = some v → Value.okWide Tryd.prog W .any base t v)
    (hW : DataW.Whole enc Tryd.prog Tryd.f6.params.toList Rows.encSumsSpec.vars false W args.toList ds gs before)
    (hz : (DataW.weightsEach Tryd.prog (Tryd.f6.params.toList ++ Rows.encSumsSpec.plain.varTypes Tryd.prog) (ds ++ gs)).all (· ≤ reachBytes) = true) (hT : Tab W) :
    Calls Tryd.prog 6 args W fun e W' => ∃ v, e = .returned v ∧ Rows.encSumsSpec.post enc Tryd.prog Tryd.f6 false true false false W args v W' := by
  have hW' := hW
  obtain ⟨p, q, hA0, hV, rfl, _, _⟩ := hW
  have hA : DataW.TrodAll enc Tryd.prog W 0 (fun _ => true) true Tryd.f6.params.toList args.toList ds p := hA0
  rw [Tryd.params6] at hA hval
  obtain ⟨a0, d0, rfl, rfl, h0⟩ := trodAll_one hA
  obtain ⟨rfl, rfl⟩ := trodVars_none hV
  obtain ⟨fuel, hf⟩ := h0
  obtain ⟨ao, len, cap, hv1⟩ := okWide_slice Tryd.underlying43 (hval 0 43 a0 rfl rfl)
  subst hv1
  have key : ∃ ps : Nat → ByteArray, (ao = none → len = 0 ∧ cap = 0) ∧ len * 16 ≤ 140737488351232 ∧ TextsAt W ao len ps ∧ ∀ j, j < len → (ps j).size ≤ 140737488351232 := by
    rcases open_strs Tryd.underlying43 Tryd.underlying9 (by kernel_rfl) hf with ⟨hv, hx⟩ | ⟨a, len', cap', m, Sx, hv, _, hl, _, hm, hx, hc⟩
    · injection hv with hv _
      injection hv with e1 e2 e3
      subst e1 e2 e3
      exact ⟨fun _ => ByteArray.empty, fun _ => ⟨rfl, rfl⟩, by decide, fun j hj => by omega, fun j hj => by omega⟩
    · injection hv with hv _
      injection hv with e1 e2 e3
      subst e1 e2 e3
      have hlm : len ≤ m := by rw [hm]; split <;> omega
      have hd : d0 = .slice ((List.range len).map fun i => .lit (.string (Sx i).data.toList)) ((List.range (m - len)).map fun j => .lit (.string (Sx (len + j)).data.toList)) := congrArg Prod.fst hx
      have hs := sized_slice hz (j := 0) (t := 43) (e := 9) rfl (by rw [hd]; rfl) Tryd.underlying43
      have hlen : len * 16 ≤ 140737488351232 := by
        rw [bytes_text] at hs
        simp only [List.length_map, List.length_range] at hs
        have hr : reachBytes = 140737488351232 := rfl
        omega
      have hsz : ∀ j, j < len → (Sx j).size ≤ 140737488351232 := by
        intro j hj
        have hmem : (Sx j).data.toList.length ∈ DataW.weightsEach Tryd.prog (Tryd.f6.params.toList ++ Rows.encSumsSpec.plain.varTypes Tryd.prog) ([d0] ++ []) := by
          refine DataW.weights_mem_each (j := 0) (t := 43) (d := d0) rfl rfl _ ?_
          rw [hd]
          simp only [DataW.weights, Tryd.underlying43]
          refine List.mem_cons_of_mem _ (List.mem_append_left _ (weights_in (d := .lit (.string (Sx j).data.toList)) ?_ _ ?_))
          · exact List.mem_map.2 ⟨j, List.mem_range.2 hj, rfl⟩
          · simp [DataW.weights]
        have h2 := of_decide_eq_true (List.all_eq_true.1 hz _ hmem)
        simpa [reachBytes] using h2
      refine ⟨Sx, (fun h => by cases h), hlen, ?_, hsz⟩
      intro j hj
      obtain ⟨b, off, spot⟩ := a
      have hspot : spot = none := by
        have h00 := (hc 0 (by omega)).1
        simpa [Addr.add] using World.cell?_spot h00
      subst hspot
      have h1 := (hc j (by omega)).1
      rw [Go.WideShapes.add_plain] at h1
      exact ⟨b, off, rfl, World.block_lt_of_cell? W _ h1, h1, Nat.le_trans (hsz j hj) (by decide)⟩
  obtain ⟨ps, k1, k2, k3, k4⟩ := key
  refine (sums_walk ao len cap ps W k1 k2 k3 k4 hT).mono fun e W' ⟨he, hb⟩ => ?_
  subst he
  exact ⟨_, rfl, law_post hW' rfl rfl Tryd.underlying4 laidOut (by kernel_rfl) rfl hb⟩

set_option maxRecDepth 100000 in
theorem encSums_lifted (os : Os) (started : os.Started) (H : Type) (enc : TypeId × Value → H) :
    ReturnsInHanded {} Tryd.checked os 6 .any (fun w args => (Rows.encSumsSpec.pre enc Tryd.prog Tryd.f6 [] false w args ∧ laidMetH Tryd.prog listed w) ∧ sizedMet enc Tryd.prog Tryd.f6 (OpenSpec.ofChange Rows.encSumsSpec) false w args)
      (Rows.encSumsSpec.post enc Tryd.prog Tryd.f6 false true false false) := by
  refine returnsInHanded_of_change_and (C := Tryd.checked) (X := fun w _ => laidMetH Tryd.prog listed w) (fun _ _ _ hh h => h.of_heap hh) own started (by kernel_rfl) Tryd.func6
    (ChangeSpec.witness_shaped (enc := enc) (C := Tryd.checked) (os := os) (X := fun w _ => laidMetH Tryd.prog listed w) false (World.doorLaid Tryd.prog 400 os) #[.slice none 0 0] 8 rfl (World.shaped_of_RefB (by kernel_rfl) (by kernel_rfl)) (by kernel_rfl) (by kernel_rfl) (by kernel_rfl) (door_met os _)) ?_
  intro W base args ds gs before hval0 hW _ hz hL _
  exact encSums_contract H enc W base args ds gs before hval0 hW hz (tab_of_laid hL)

theorem encSums_row : Rows.EncSumsSaid :=
  OpenClaim.holds_of_wide 6 Tryd.f6 rfl rfl rfl rfl rfl rfl rfl ⟨rfl, rfl, rfl, rfl, rfl⟩ rfl rfl rfl rfl rfl (by kernel_rfl) Tryd.func6 (by kernel_rfl)
    (of_decide_eq_true (by kernel_rfl)) (by unfold Func.isWrapper; first | (rw [if_pos (by decide +kernel)]; kernel_rfl) | (rw [if_neg (by decide +kernel)]; exact ⟨rfl, rfl⟩))
    (fun os started H enc _ => encSums_lifted os started H enc)

theorem encSums_holds : Rows.EncSumsCardSaid :=
  Claim7.holds_tied_plain_at .later [] [.data] true Rows.encSumsCard.stood.harness false
    encSums_row (fun _ h => by cases h) (by kernel_rfl) (fun _ h => by cases h) encSums_row_tie rfl ⟨rfl, rfl⟩ (by kernel_rfl) rfl
    (fun f fn hf hfn => by
      obtain rfl : f = 6 := Option.some.inj ((show Tryd.prog.funcNamed "almanac/almanaclaw02.EncSums" = some 6 by kernel_rfl).symm.trans hf) |>.symm
      obtain rfl : fn = Tryd.f6 := (Option.some.inj (Tryd.func6.symm.trans hfn)).symm
      exact ⟨by kernel_rfl, fun j t ht => by
        rw [Tryd.params6] at ht
        have hm : t ∈ [43] := by simpa using Array.mem_of_getElem? ht
        have hall : ([43].all fun u => !Tryd.prog.wantsStandIn u) = true := by kernel_rfl
        exact (show Tryd.prog.wantsStandIn t = false by simpa using List.all_eq_true.1 hall t hm)⟩)
    (by kernel_rfl)
end Go.Proofs.YtdedkhifnecgkaaDoor
