/-
  The texts NAgainProof, joined. Own text.
-/
import Derived.Test.YtmmlefbokplnnaaGreatDoorJ40
import Derived.Test.YtmmlefbokplnnaaGreatDoorJ42
import Derived.Test.YtmmlefbokplnnaaGreatDoorCards
import Derived.Test.YtmmlefbokplnnaaGreatDoorTie
set_option linter.unusedVariables false
set_option linter.unusedSimpArgs false
namespace Go.Proofs.YtmmlefbokplnnaaGreatDoor
open Go.ChangeShapes Go.WideShapes Go.ChangeAt Go.RowKit Go.Deep Go.Proofs.YtmmlefbokplnnaaGreatDoor.Law Go.Proofs.YtmmlefbokplnnaaGreatDoor.Disk

set_option maxRecDepth 100000 in
theorem diskAgain_contract (H : Type) (enc : TypeId × Value → H) (W : World) (base : Nat) (args : Array Value) (ds gs : List (DataW H)) (before : List MemPlace)
    (hval : ∀ (j : Nat) t v, Tryz.f5.params[j]? = some t → args[j]? = some v → Value.okWide Tryz.prog W .any base t v)
    (hW : DataW.Whole enc Tryz.prog Tryz.f5.params.toList Rows.diskAgainSpec.vars false W args.toList ds gs before) (hk : Rows.uptoSmall H (ds ++ gs) = true) (hL : laidMetH Tryz.prog listedD W) (hsh : W.ShapedOpen Tryz.prog) :
    Calls Tryz.prog 5 args W fun e W' => ∃ v, e = .returned v ∧ Rows.diskAgainSpec.post enc Tryz.prog Tryz.f5 false true false false W args v W' := by
  have hW' := hW
  obtain ⟨p, q, hA0, hV, rfl, _, _⟩ := hW
  have hA : DataW.TrodAll enc Tryz.prog W 0 (fun _ => true) true Tryz.f5.params.toList args.toList ds p := hA0
  rw [Tryz.params5] at hA hval
  obtain ⟨rfl, rfl⟩ := trodVars_none hV
  obtain ⟨E, he⟩ := envD_of_laid hL hsh
  obtain ⟨v0, v1, v2, d0, d1, d2, p0, p1, p2, rfl, rfl, rfl, h0, h1, h2⟩ := trodAll_three hA
  have hb := bulk_bound hk
  simp only [List.append_nil, Rows.uptoBulkAll] at hb
  obtain ⟨fuel0, hf0⟩ := h0
  obtain ⟨x0, y0, z0, hv0⟩ := okWide_slice Tryz.underlying22 (hval 0 22 v0 rfl rfl)
  subst hv0
  obtain ⟨a0, c0, l0, e0, t0, w0⟩ := open_ops hf0 (by show Rows.uptoBulk d0 ≤ _; omega)
  rw [e0] at hW' ⊢
  change _ ≤ Rows.uptoBulk d0 at w0
  obtain ⟨fuel1, hf1⟩ := h1
  obtain ⟨n1, hv1⟩ := okWide_int Tryz.underlying3 (hval 1 3 v1 rfl rfl)
  subst hv1
  obtain ⟨i1, e1, _, w1⟩ := DataW.trod_int Tryz.underlying3 hf1
  have e1' : Value.int .i64 n1 = Value.int .i64 i1 := by injection e1
  injection e1' with _ e1'
  subst e1'
  obtain ⟨fuel2, hf2⟩ := h2
  obtain ⟨x2, y2, z2, hv2⟩ := okWide_slice Tryz.underlying29 (hval 2 29 v2 rfl rfl)
  subst hv2
  obtain ⟨a2, c2, l2, e2, t2, q2, w2⟩ := open_ints hf2
  rw [e2] at hW' ⊢
  change _ ≤ Rows.uptoBulk d2 at w2
  refine (again_walk W E he (low8 he.env) (lowE he) a0 c0 l0 t0 (by omega) n1 (int_of_wf w1) a2 c2 l2 t2 (by omega) q2).mono fun e W' ⟨he, hb⟩ => ?_
  subst he
  exact ⟨_, rfl, law_post hW' rfl rfl Tryz.underlying4 laidOut (by kernel_rfl) rfl hb⟩

theorem diskAgain_witness (os : Os) {H : Type} (enc : TypeId × Value → H) :
    (Rows.OpenSpec.upto Rows.diskAgainSpec).preRow enc Tryz.prog Tryz.f5 Rows.diskAgainUptoRow.domain false Rows.diskAgainUptoRow.laid ((World.doorLaid Tryz.prog 400 os).forCall (fun _ _ => 0) ⟨#[], #[.slice none 0 0, .int .i64 0, .slice none 0 0], []⟩).memory #[.slice none 0 0, .int .i64 0, .slice none 0 0] := by
  have hw : (DataW.whole enc Tryz.prog ((World.doorLaid Tryz.prog 400 os).forCall (fun _ _ => 0) ⟨#[], #[.slice none 0 0, .int .i64 0, .slice none 0 0], []⟩).memory Tryz.f5.params.toList (Rows.OpenSpec.upto Rows.diskAgainSpec).vars false (#[.slice none 0 0, .int .i64 0, .slice none 0 0] : Array Value).toList 8).map (fun x => (x.1, x.2.1)) =
      some ([.nil, .lit (.int .i64 0), .nil], []) := by kernel_rfl
  obtain ⟨⟨x1, x2, x3⟩, hx, hx1⟩ := Option.map_eq_some_iff.1 hw
  simp only [Prod.mk.injEq] at hx1
  obtain ⟨rfl, rfl⟩ := hx1
  exact OpenSpec.preRow_of_cond 8 hx (by kernel_rfl) (fun k hk => by cases hk; rfl) (by kernel_rfl) (doorD_met os _)

set_option maxRecDepth 100000 in
theorem diskAgain_lifted (os : Os) (started : os.Started) (H : Type) (enc : TypeId × Value → H) (F : Stop.Interp) :
    ReturnsInHanded {} Tryz.checked os 5 .any ((Rows.OpenSpec.upto Rows.diskAgainSpec).preRow enc Tryz.prog Tryz.f5 Rows.diskAgainUptoRow.domain false Rows.diskAgainUptoRow.laid) (((Rows.OpenSpec.upto Rows.diskAgainSpec).at F).post enc Tryz.prog Tryz.f5 false true false false) := by
  refine returnsInHanded_of_row (C := Tryz.checked) (s := Rows.OpenSpec.upto Rows.diskAgainSpec) own started (by kernel_rfl) Tryz.func5
    (witness_row_at (enc := enc) (C := Tryz.checked) false (World.doorLaid Tryz.prog 400 os) #[.slice none 0 0, .int .i64 0, .slice none 0 0] rfl (by kernel_rfl) (by kernel_rfl) (by kernel_rfl) (diskAgain_witness os enc)) ?_
  intro W base args ds gs before hval0 hW _ hcond _ hL hsh _
  exact diskAgain_contract H enc W base args ds gs before hval0 hW (hcond _ rfl) hL hsh

theorem diskAgain_row : Rows.DiskAgainUptoSaid :=
  OpenClaim.holds_of_cond 5 Tryz.f5 rfl rfl rfl rfl rfl rfl rfl ⟨rfl, rfl, rfl, rfl, rfl⟩ rfl rfl rfl rfl rfl (by kernel_rfl) Tryz.func5 (by kernel_rfl)
    (of_decide_eq_true (by kernel_rfl)) (by unfold Func.isWrapper; first | (rw [if_pos (by decide +kernel)]; kernel_rfl) | (rw [if_neg (by decide +kernel)]; exact ⟨rfl, rfl⟩))
    (fun os started H enc _ F => by rw [OpenClaim.pre_eq_preRow]; exact diskAgain_lifted os started H enc F)

theorem diskAgain_holds : Rows.DiskAgainUptoCardSaid :=
  Claim7.holds_tied_plain_at .later [] [.sentinel, .sentinel, .sentinel, .sentinel, .sentinel, .sentinel, .sentinel] true Rows.diskAgainUptoCard.stood.harness true
    diskAgain_row (fun _ h => by cases h) (by kernel_rfl) (fun _ h => by cases h) diskAgainUpto_row_tie rfl ⟨rfl, rfl⟩ (by kernel_rfl) rfl
    (fun f fn hf hfn => by
      obtain rfl : f = 5 := Option.some.inj ((show Tryz.prog.funcNamed "almanac/almanaclaw03.DiskAgain" = some 5 by kernel_rfl).symm.trans hf) |>.symm
      obtain rfl : fn = Tryz.f5 := (Option.some.inj (Tryz.func5.symm.trans hfn)).symm
      exact ⟨by kernel_rfl, fun j t ht => by
        rw [Tryz.params5] at ht
        have hm : t ∈ [22, 3, 29] := by simpa using Array.mem_of_getElem? ht
        have hall : ([22, 3, 29].all fun u => !Tryz.prog.wantsStandIn u) = true := by kernel_rfl
        exact (show Tryz.prog.wantsStandIn t = false by simpa using List.all_eq_true.1 hall t hm)⟩)
    (by kernel_rfl)
end Go.Proofs.YtmmlefbokplnnaaGreatDoor
