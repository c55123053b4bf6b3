/-
  For every list of texts, every list of labels, every text, SymbolsPacks returns true, and each reads afterwards as it read before. No condition.
-/
import Derived.Test.YtcpkogboaniehaaSWalk3
import Derived.Test.YtcpkogboaniehaaLaw

namespace Go.Proofs.Ytcpkogboaniehaa
open Go.ChangeShapes Go.WideShapes Go.ChangeAt Go.RowKit Go.Deep Go.Proofs.Ytcpkogboaniehaa.Law Go.Proofs.Ytcpkogboaniehaa.Lab Go.Proofs.Ytcpkogboaniehaa.Sym
open Go.ChangeMaps (open_string)

set_option maxRecDepth 100000 in
theorem symbolsPacks_lifted (os : Os) (started : os.Started) (H : Type) (enc : TypeId × Value → H) :
    ReturnsInHanded {} Try.checked os 5 .any (Rows.symbolsPacksSpec.pre6 enc Try.prog Try.f5 Rows.symbolsPacksRow.domain false) (Rows.symbolsPacksSpec.post enc Try.prog Try.f5 false true false false) := by
  refine returnsInHanded_of_change_sized (C := Try.checked) own started (by kernel_rfl) Try.func5
    (ChangeSpec.witness6 (enc := enc) (C := Try.checked) false ⟨#[], #[.slice none 0 0, .slice none 0 0, .string ByteArray.empty], []⟩ 8 (by kernel_rfl) (by kernel_rfl) (by kernel_rfl) (by kernel_rfl)) ?_
  intro W base args ds gs before hval0 hW _ hsz0 _
  have hval : ∀ (j : Nat) t v, Try.f5.params[j]? = some t → args[j]? = some v → Value.okWide Try.prog W .any base t v := hval0
  have hsz : (DataW.weightsEach Try.prog (Try.f5.params.toList ++ Rows.symbolsPacksSpec.plain.varTypes Try.prog) (ds ++ gs)).all (· ≤ reachBytes) = true := hsz0
  have hW' := hW
  obtain ⟨p, q, hA0, hV, rfl, _, _⟩ := hW
  have hA : DataW.TrodAll enc Try.prog W 0 (fun _ => true) true Try.f5.params.toList args.toList ds p := hA0
  rw [Try.params5] at hA hval hsz
  obtain ⟨v0, v1, v2, d0, d1, d2, p0, p1, p2, rfl, rfl, rfl, h0, h1, h2⟩ := trodAll_three hA
  obtain ⟨rfl, rfl⟩ := trodVars_none hV
  obtain ⟨fuel0, hf0⟩ := h0
  obtain ⟨x0, y0, z0, hv0⟩ := okWide_slice Try.underlying22 (hval 0 22 v0 rfl rfl)
  subst hv0
  obtain ⟨ao0, cap0, l0, hI0⟩ := Go.Proofs.Ytcpkogboaniehaa.Sym.open_texts hf0 (fun q hq => of_decide_eq_true (List.all_eq_true.1 hsz q (DataW.weights_mem_each (j := 0) (t := 22) (d := d0) rfl rfl q hq)))
  have he0 := hI0.val
  injection he0 with e1 e2 e3
  subst e1 e2 e3
  obtain ⟨fuel1, hf1⟩ := h1
  obtain ⟨x1, y1, z1, hv1⟩ := okWide_slice Try.underlying38 (hval 1 38 v1 rfl rfl)
  subst hv1
  obtain ⟨ao1, cap1, l1, hI1⟩ := Go.Proofs.Ytcpkogboaniehaa.Lab.open_labs hf1 (fun q hq => of_decide_eq_true (List.all_eq_true.1 hsz q (DataW.weights_mem_each (j := 1) (t := 38) (d := d1) rfl rfl q hq)))
  have he1 := hI1.val
  injection he1 with e1 e2 e3
  subst e1 e2 e3
  obtain ⟨s2, rfl, rfl, rfl, _⟩ := open_string Try.underlying9 (hval 2 9 v2 rfl rfl) h2
  have hs2 : s2.size ≤ 140737488351232 := by
    have h := sized_string hsz (j := 2) (t := 9) (bytes := s2.data.toList) rfl rfl
    simpa [reachBytes] using h
  refine (packs_walk x0 x1 z0 z1 l0 l1 s2 _ _ W hI0 hI1 hs2).mono fun e W' ⟨he, hb⟩ => ?_
  subst he
  exact ⟨_, rfl, law_post hW' rfl rfl Try.underlying4 laidOut (by kernel_rfl) rfl hb⟩

theorem symbolsPacks_holds : Rows.SymbolsPacksSaid :=
  OpenClaim.holds_of_wide 5 Try.f5 rfl rfl rfl rfl rfl rfl rfl ⟨rfl, rfl, rfl, rfl, rfl⟩ rfl rfl rfl rfl rfl (by kernel_rfl) Try.func5 (by kernel_rfl)
    (of_decide_eq_true (by kernel_rfl)) (by unfold Func.isWrapper; first | (rw [if_pos (by decide +kernel)]; kernel_rfl) | (rw [if_neg (by decide +kernel)]; exact ⟨rfl, rfl⟩))
    (fun os started H enc _ => symbolsPacks_lifted os started H enc)

end Go.Proofs.Ytcpkogboaniehaa
