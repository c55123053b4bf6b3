/-
  For every list of lists of labels (of bulk at most 1048576 together), SymbolsBack returns true, and each reads afterwards as it read before. The bulk's bound is the only condition.
-/
import Derived.Test.YtcpkogboaniehaaSWalk6
import Derived.Test.YtcpkogboaniehaaLaw
import Derived.Test.YtcpkogboaniehaaUpto
namespace Go.Proofs.Ytcpkogboaniehaa
open Go.ChangeShapes Go.WideShapes Go.ChangeAt Go.RowKit Go.Deep Go.Proofs.Ytcpkogboaniehaa.Law Go.Proofs.Ytcpkogboaniehaa.Lab Go.Proofs.Ytcpkogboaniehaa.Sym
open Go.ChangeMaps (open_string)

set_option maxRecDepth 100000 in
theorem symbolsBack_contract (H : Type) (enc : TypeId × Value → H) (W : World) (base : Nat) (args : Array Value) (ds gs : List (DataW H)) (before : List MemPlace)
    (hval : ∀ (j : Nat) t v, Try.f6.params[j]? = some t → args[j]? = some v → Value.okWide Try.prog W .any base t v)
    (hW : DataW.Whole enc Try.prog Try.f6.params.toList Rows.symbolsBackSpec.vars false W args.toList ds gs before) (hk : Rows.uptoSmall H (ds ++ gs) = true) :
    Calls Try.prog 6 args W fun e W' => ∃ v, e = .returned v ∧ Rows.symbolsBackSpec.post enc Try.prog Try.f6 false true false false W args v W' := by
  have hW' := hW
  obtain ⟨p, q, hA0, hV, rfl, _, _⟩ := hW
  have hA : DataW.TrodAll enc Try.prog W 0 (fun _ => true) true Try.f6.params.toList args.toList ds p := hA0
  rw [Try.params6] at hA hval
  obtain ⟨v0, d0, rfl, rfl, h0⟩ := trodAll_one hA
  obtain ⟨rfl, rfl⟩ := trodVars_none hV
  have hb := bulk_bound hk
  simp only [List.append_nil, Rows.uptoBulkAll] at hb
  obtain ⟨fuel0, hf0⟩ := h0
  obtain ⟨x0, y0, z0, hv0⟩ := okWide_slice Try.underlying36 (hval 0 36 v0 rfl rfl)
  subst hv0
  obtain ⟨ao0, cap0, l0, he0, hc0, hS0, hw0⟩ := Go.Proofs.Ytcpkogboaniehaa.Sym.open_sets hf0
  injection he0 with e1 e2 e3
  subst e1 e2 e3
  change _ ≤ Rows.uptoBulk d0 at hw0
  refine (back_walk x0 z0 l0 W hS0 (by omega)).mono fun e W' ⟨he, hb⟩ => ?_
  subst he
  exact ⟨_, rfl, law_post hW' rfl rfl Try.underlying4 laidOut (by kernel_rfl) rfl hb⟩

set_option maxRecDepth 100000 in
theorem symbolsBack_lifted (os : Os) (started : os.Started) (H : Type) (enc : TypeId × Value → H) (F : Stop.Interp) :
    ReturnsInHanded {} Try.checked os 6 .any ((Rows.OpenSpec.upto Rows.symbolsBackSpec).pre6 enc Try.prog Try.f6 Rows.symbolsBackUptoRow.domain false) (((Rows.OpenSpec.upto Rows.symbolsBackSpec).at F).post enc Try.prog Try.f6 false true false false) := by
  refine returnsInHanded_of_cond (C := Try.checked) (s := Rows.OpenSpec.upto Rows.symbolsBackSpec) (k := Rows.uptoSmall) rfl own started (by kernel_rfl) Try.func6
    (OpenSpec.witness (enc := enc) (C := Try.checked) (s := Rows.OpenSpec.upto Rows.symbolsBackSpec) (k := Rows.uptoSmall) rfl false ⟨#[], #[.slice none 0 0], []⟩ 8 (by kernel_rfl) (by kernel_rfl) (by kernel_rfl)
      (x := ([.nil], [], [])) (by kernel_rfl) rfl (by kernel_rfl)) ?_
  intro W base args ds gs before hval hW _ hk _
  exact symbolsBack_contract H enc W base args ds gs before hval hW hk

theorem symbolsBack_holds : Rows.SymbolsBackUptoSaid :=
  OpenClaim.holds_of_cond 6 Try.f6 rfl rfl rfl rfl rfl rfl rfl ⟨rfl, rfl, rfl, rfl, rfl⟩ rfl rfl rfl rfl rfl (by kernel_rfl) Try.func6 (by kernel_rfl)
    (of_decide_eq_true (by kernel_rfl)) (by unfold Func.isWrapper; first | (rw [if_pos (by decide +kernel)]; kernel_rfl) | (rw [if_neg (by decide +kernel)]; exact ⟨rfl, rfl⟩))
    (fun os started H enc _ F => symbolsBack_lifted os started H enc F)

end Go.Proofs.Ytcpkogboaniehaa
