/-
  For every list of texts, every place, every list of labels, SymbolsNone returns true, and each reads afterwards as it read before. No condition.
-/
import Derived.Test.YtcpkogboaniehaaSWalk2
import Derived.Test.YtcpkogboaniehaaLaw

namespace Go.Proofs.Ytcpkogboaniehaa
open Go.ChangeShapes Go.WideShapes Go.ChangeAt Go.RowKit Go.Deep Go.Proofs.Ytcpkogboaniehaa.Law Go.Proofs.Ytcpkogboaniehaa.Lab Go.Proofs.Ytcpkogboaniehaa.Sym
open Go.ChangeMaps (open_string)

set_option maxRecDepth 100000 in
theorem symbolsNone_lifted (os : Os) (started : os.Started) (H : Type) (enc : TypeId × Value → H) :
    ReturnsInHanded {} Try.checked os 7 .any (Rows.symbolsNoneSpec.pre6 enc Try.prog Try.f7 Rows.symbolsNoneRow.domain false) (Rows.symbolsNoneSpec.post enc Try.prog Try.f7 false true false false) := by
  refine returnsInHanded_of_change_sized (C := Try.checked) own started (by kernel_rfl) Try.func7
    (ChangeSpec.witness6 (enc := enc) (C := Try.checked) false ⟨#[], #[.slice none 0 0, .int .i64 0, .slice none 0 0], []⟩ 8 (by kernel_rfl) (by kernel_rfl) (by kernel_rfl) (by kernel_rfl)) ?_
  intro W base args ds gs before hval0 hW _ hsz0 _
  have hval : ∀ (j : Nat) t v, Try.f7.params[j]? = some t → args[j]? = some v → Value.okWide Try.prog W .any base t v := hval0
  have hsz : (DataW.weightsEach Try.prog (Try.f7.params.toList ++ Rows.symbolsNoneSpec.plain.varTypes Try.prog) (ds ++ gs)).all (· ≤ reachBytes) = true := hsz0
  have hW' := hW
  obtain ⟨p, q, hA0, hV, rfl, _, _⟩ := hW
  have hA : DataW.TrodAll enc Try.prog W 0 (fun _ => true) true Try.f7.params.toList args.toList ds p := hA0
  rw [Try.params7] at hA hval hsz
  obtain ⟨v0, v1, v2, d0, d1, d2, p0, p1, p2, rfl, rfl, rfl, h0, h1, h2⟩ := trodAll_three hA
  obtain ⟨rfl, rfl⟩ := trodVars_none hV
  obtain ⟨fuel0, hf0⟩ := h0
  obtain ⟨x0, y0, z0, hv0⟩ := okWide_slice Try.underlying22 (hval 0 22 v0 rfl rfl)
  subst hv0
  obtain ⟨ao0, cap0, l0, hI0⟩ := Go.Proofs.Ytcpkogboaniehaa.Sym.open_texts hf0 (fun q hq => of_decide_eq_true (List.all_eq_true.1 hsz q (DataW.weights_mem_each (j := 0) (t := 22) (d := d0) rfl rfl q hq)))
  have he0 := hI0.val
  injection he0 with e1 e2 e3
  subst e1 e2 e3
  obtain ⟨n1, rfl, rfl, rfl, w1⟩ := open_int Try.underlying3 (hval 1 3 v1 rfl rfl) h1
  have b1 : -9223372036854775808 ≤ n1 ∧ n1 ≤ 9223372036854775807 := by simpa [Lit.wf, IntKind.min, IntKind.max, IntKind.signed, IntKind.bits] using w1
  obtain ⟨fuel2, hf2⟩ := h2
  obtain ⟨x2, y2, z2, hv2⟩ := okWide_slice Try.underlying38 (hval 2 38 v2 rfl rfl)
  subst hv2
  obtain ⟨ao2, cap2, l2, hI2⟩ := Go.Proofs.Ytcpkogboaniehaa.Lab.open_labs hf2 (fun q hq => of_decide_eq_true (List.all_eq_true.1 hsz q (DataW.weights_mem_each (j := 2) (t := 38) (d := d2) rfl rfl q hq)))
  have he2 := hI2.val
  injection he2 with e1 e2 e3
  subst e1 e2 e3
  refine (none_walk x0 x2 z0 z2 l0 n1 l2 _ _ W hI0 b1.2 hI2).mono fun e W' ⟨he, hb⟩ => ?_
  subst he
  exact ⟨_, rfl, law_post hW' rfl rfl Try.underlying4 laidOut (by kernel_rfl) rfl hb⟩

theorem symbolsNone_holds : Rows.SymbolsNoneSaid :=
  OpenClaim.holds_of_wide 7 Try.f7 rfl rfl rfl rfl rfl rfl rfl ⟨rfl, rfl, rfl, rfl, rfl⟩ rfl rfl rfl rfl rfl (by kernel_rfl) Try.func7 (by kernel_rfl)
    (of_decide_eq_true (by kernel_rfl)) (by unfold Func.isWrapper; first | (rw [if_pos (by decide +kernel)]; kernel_rfl) | (rw [if_neg (by decide +kernel)]; exact ⟨rfl, rfl⟩))
    (fun os started H enc _ => symbolsNone_lifted os started H enc)

end Go.Proofs.Ytcpkogboaniehaa
