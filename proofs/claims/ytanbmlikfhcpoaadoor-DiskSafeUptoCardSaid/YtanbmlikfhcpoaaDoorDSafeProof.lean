/-
  For every two lists of texts and every list of numbers (of bulk at most 1048576 together), DiskSafe returns true, and the lists read afterwards as they read before; the error variables of api hold what the program lays in them. Own text.
-/
import Derived.Test.YtanbmlikfhcpoaaDoorDSafeW
import Derived.Deep.DeepHandedRow
import Derived.HandedShaped
import Derived.Lib.LaidTab
import Derived.LaidMore
import Derived.OpenShut
import Derived.Stop.Joined
import Derived.Stop.LaidErr
import Derived.Shelf.Vars
import Derived.SevenTiedAt
import Derived.Lib.SmallJoins
import Derived.Test.YtanbmlikfhcpoaaDoorCards
import Derived.Test.YtanbmlikfhcpoaaDoorTie
namespace Go.Proofs.YtanbmlikfhcpoaaDoor.Disk
open Go.RowKit Go Go.Proofs.YtanbmlikfhcpoaaDoor.Base Go.Proofs.YtanbmlikfhcpoaaDoor.Map Go.ChangeShapes Go.WideShapes Go.ChangeAt Go.Deep

/-- what the row lists -/
def listedS : List (String × DataW Unit) := Rows.diskSafeUptoRow.laid

theorem starEs : "*" ++ "errors.errorString" = "*errors.errorString" := by decide
theorem rowEs (u : TypeId) (h : Tryd.prog.typeName? 3 u = some "*errors.errorString") : u = 129 :=
  typeName_ptr_named (nm := "errors.errorString") (by rw [starEs]; kernel_rfl) (by kernel_rfl) (by decide) u (by rw [starEs]; exact h)
theorem cellsEs : Tryd.prog.cellsOf 145 = 1 := by kernel_rfl
theorem cellsStr : Tryd.prog.cellsOf 9 = 1 := by kernel_rfl

theorem gOff : Tryd.prog.globalNamed "almanac/api.FailOff" = some 0 := by kernel_rfl
theorem gName : Tryd.prog.globalNamed "almanac/api.FailName" = some 1 := by kernel_rfl
theorem gKind : Tryd.prog.globalNamed "almanac/api.FailKind" = some 2 := by kernel_rfl
theorem gMissing : Tryd.prog.globalNamed "almanac/api.FailMissing" = some 3 := by kernel_rfl
theorem gExists : Tryd.prog.globalNamed "almanac/api.FailExists" = some 4 := by kernel_rfl
theorem gSpace : Tryd.prog.globalNamed "almanac/api.FailSpace" = some 5 := by kernel_rfl
theorem kOff : (Tryd.prog.globals[0]?).map (·.type) = some 28 := by kernel_rfl
theorem kName : (Tryd.prog.globals[1]?).map (·.type) = some 28 := by kernel_rfl
theorem kKind : (Tryd.prog.globals[2]?).map (·.type) = some 28 := by kernel_rfl
theorem kMissing : (Tryd.prog.globals[3]?).map (·.type) = some 28 := by kernel_rfl
theorem kExists : (Tryd.prog.globals[4]?).map (·.type) = some 28 := by kernel_rfl
theorem kSpace : (Tryd.prog.globals[5]?).map (·.type) = some 28 := by kernel_rfl

theorem sent {n : String} {text : List UInt8} {r : List (String × DataW Unit)} {W : World} {g : Nat} (h : laidMet Tryd.prog ((n, .iface "*errors.errorString" (.ptr (.agg [.lit (.string text)]))) :: r) W) (hg : Tryd.prog.globalNamed n = some g) (ht : (Tryd.prog.globals[g]?).map (·.type) = some 28) :
    ∃ a : Addr, W.cell? ⟨g, 0, none⟩ = some (.iface 129 (.pointer (some a))) := by
  obtain ⟨a, s, hv, _⟩ := laid_sentinel h hg ht Tryd.underlying28 rowEs Tryd.underlying129 Tryd.underlying145 rfl rfl Tryd.underlying9 cellsEs cellsStr
  exact ⟨a, by simpa using World.var?_cell hg hv 0⟩

theorem envS_of_laid {W : World} (h : laidMetH Tryd.prog listedS W) (hsh : W.ShapedOpen Tryd.prog) : ∃ E, Env W E := by
  unfold listedS at h
  rw [MakeChecks.laidMetH_plain _ _ _ (by kernel_rfl)] at h
  obtain ⟨a1, c1⟩ := sent h gOff kOff
  obtain ⟨a2, c2⟩ := sent h.tail gName kName
  obtain ⟨a3, c3⟩ := sent h.tail.tail gKind kKind
  obtain ⟨a4, c4⟩ := sent h.tail.tail.tail gMissing kMissing
  obtain ⟨a5, c5⟩ := sent h.tail.tail.tail.tail gExists kExists
  obtain ⟨a7, c7⟩ := sent h.tail.tail.tail.tail.tail gSpace kSpace
  refine ⟨fun c => if c = 1 then a1 else if c = 2 then a2 else if c = 3 then a3 else if c = 4 then a4 else if c = 5 then a5 else a7, ?_⟩
  have hm := cell_of_shapedOpen_int (P := Tryd.prog) (g := 6) (t := 3) (zero := #[.int .i64 0]) hsh (of_decide_eq_true (by kernel_rfl)) (by kernel_rfl) rfl (by kernel_rfl) (by kernel_rfl) Tryd.underlying3
  exact ⟨hm, c1, c2, c3, c4, c5, c7⟩

/-- the blocks that every world has -/
theorem low8S {W : World} (hsh : W.ShapedOpen Tryd.prog) : 8 ≤ W.heap.size := by
  obtain ⟨o, _, h, _⟩ := hsh.2 7 (of_decide_eq_true (by kernel_rfl)) (of_decide_eq_true (by kernel_rfl))
  have := (Array.getElem?_eq_some_iff.1 h).1
  omega

theorem doorS_met (os : Os) (args : Array Value) : laidMetH Tryd.prog listedS ((World.doorLaid Tryd.prog 400 os).forCall (fun _ _ => 0) ⟨#[], args, []⟩).memory :=
  laidMetH_of_parts3 (fuel := 8) (laidMet_of_run' 8 (by kernel_rfl) (by kernel_rfl)) (by kernel_rfl) (by kernel_rfl)
end Go.Proofs.YtanbmlikfhcpoaaDoor.Disk

namespace Go.Proofs.YtanbmlikfhcpoaaDoor
open Go.ChangeShapes Go.WideShapes Go.ChangeAt Go.RowKit Go.Deep Go.Proofs.YtanbmlikfhcpoaaDoor.Law Go.Proofs.YtanbmlikfhcpoaaDoor.Disk

set_option maxRecDepth 100000 in
theorem diskSafe_contract (H : Type) (enc : TypeId × Value → H) (W : World) (base : Nat) (args : Array Value) (ds gs : List (DataW H)) (before : List MemPlace)
    (hval : ∀ (j : Nat) t v, Tryd.f3.params[j]? = some t → args[j]? = some v → Value.okWide Tryd.prog W .any base t v)
    (hW : DataW.Whole enc Tryd.prog Tryd.f3.params.toList Rows.diskSafeSpec.vars false W args.toList ds gs before) (hk : Rows.uptoSmall H (ds ++ gs) = true) (hL : laidMetH Tryd.prog listedS W) (hsh : W.ShapedOpen Tryd.prog) :
    Calls Tryd.prog 3 args W fun e W' => ∃ v, e = .returned v ∧ Rows.diskSafeSpec.post enc Tryd.prog Tryd.f3 false true false false W args v W' := by
  have hW' := hW
  obtain ⟨p, q, hA0, hV, rfl, _, _⟩ := hW
  have hA : DataW.TrodAll enc Tryd.prog W 0 (fun _ => true) true Tryd.f3.params.toList args.toList ds p := hA0
  rw [Tryd.params3] at hA hval
  obtain ⟨rfl, rfl⟩ := trodVars_none hV
  obtain ⟨E, he⟩ := envS_of_laid hL hsh
  obtain ⟨v0, v1, v2, d0, d1, d2, p0, p1, p2, rfl, rfl, rfl, h0, h1, h2⟩ := trodAll_three hA
  have hb := bulk_bound hk
  simp only [List.append_nil, Rows.uptoBulkAll] at hb
  obtain ⟨fuel0, hf0⟩ := h0
  obtain ⟨fuel1, hf1⟩ := h1
  obtain ⟨fuel2, hf2⟩ := h2
  obtain ⟨x0, y0, z0, hv0⟩ := okWide_slice Tryd.underlying22 (hval 0 22 v0 rfl rfl)
  obtain ⟨x1, y1, z1, hv1⟩ := okWide_slice Tryd.underlying22 (hval 1 22 v1 rfl rfl)
  obtain ⟨x2, y2, z2, hv2⟩ := okWide_slice Tryd.underlying23 (hval 2 23 v2 rfl rfl)
  subst hv0 hv1 hv2
  obtain ⟨a0, c0, l0, e0, t0, w0⟩ := open_txs hf0
  obtain ⟨a1, c1, l1, e1, t1, w1⟩ := open_txs hf1
  obtain ⟨a2, c2, l2, e2, t2, i2, w2⟩ := open_ints hf2
  rw [e0, e1, e2] at hW' ⊢
  change _ ≤ Rows.uptoBulk d0 at w0
  change _ ≤ Rows.uptoBulk d1 at w1
  change _ ≤ Rows.uptoBulk d2 at w2
  refine (safe_walk W E he (low8S hsh) a0 a1 a2 c0 c1 c2 l0 l1 l2 t0 t1 t2 i2 (by omega) (by omega)).mono fun e W' ⟨he, hb⟩ => ?_
  subst he
  exact ⟨_, rfl, law_post hW' rfl rfl Tryd.underlying4 laidOut (by kernel_rfl) rfl hb⟩

theorem diskSafe_witness (os : Os) {H : Type} (enc : TypeId × Value → H) :
    (Rows.OpenSpec.upto Rows.diskSafeSpec).preRow enc Tryd.prog Tryd.f3 Rows.diskSafeUptoRow.domain false Rows.diskSafeUptoRow.laid ((World.doorLaid Tryd.prog 400 os).forCall (fun _ _ => 0) ⟨#[], #[.slice none 0 0, .slice none 0 0, .slice none 0 0], []⟩).memory #[.slice none 0 0, .slice none 0 0, .slice none 0 0] := by
  have hw : (DataW.whole enc Tryd.prog ((World.doorLaid Tryd.prog 400 os).forCall (fun _ _ => 0) ⟨#[], #[.slice none 0 0, .slice none 0 0, .slice none 0 0], []⟩).memory Tryd.f3.params.toList (Rows.OpenSpec.upto Rows.diskSafeSpec).vars false #[Value.slice none 0 0, Value.slice none 0 0, Value.slice none 0 0].toList 8).map (fun x => (x.1, x.2.1)) =
      some ([.nil, .nil, .nil], []) := by kernel_rfl
  obtain ⟨⟨x1, x2, x3⟩, hx, hx1⟩ := Option.map_eq_some_iff.1 hw
  simp only [Prod.mk.injEq] at hx1
  obtain ⟨rfl, rfl⟩ := hx1
  exact OpenSpec.preRow_of_cond 8 hx (by kernel_rfl) (fun k hk => by cases hk; rfl) (by kernel_rfl) (doorS_met os _)

set_option maxRecDepth 100000 in
theorem diskSafe_lifted (os : Os) (started : os.Started) (H : Type) (enc : TypeId × Value → H) (F : Stop.Interp) :
    ReturnsInHanded {} Tryd.checked os 3 .any ((Rows.OpenSpec.upto Rows.diskSafeSpec).preRow enc Tryd.prog Tryd.f3 Rows.diskSafeUptoRow.domain false Rows.diskSafeUptoRow.laid) (((Rows.OpenSpec.upto Rows.diskSafeSpec).at F).post enc Tryd.prog Tryd.f3 false true false false) := by
  refine returnsInHanded_of_row (C := Tryd.checked) (s := Rows.OpenSpec.upto Rows.diskSafeSpec) own started (by kernel_rfl) Tryd.func3
    (witness_row_at (enc := enc) (C := Tryd.checked) false (World.doorLaid Tryd.prog 400 os) #[.slice none 0 0, .slice none 0 0, .slice none 0 0] rfl (by kernel_rfl) (by kernel_rfl) (by kernel_rfl) (diskSafe_witness os enc)) ?_
  intro W base args ds gs before hval0 hW _ hcond _ hL hsh _
  exact diskSafe_contract H enc W base args ds gs before hval0 hW (hcond _ rfl) hL hsh

theorem diskSafe_row : Rows.DiskSafeUptoSaid :=
  OpenClaim.holds_of_cond 3 Tryd.f3 rfl rfl rfl rfl rfl rfl rfl ⟨rfl, rfl, rfl, rfl, rfl⟩ rfl rfl rfl rfl rfl (by kernel_rfl) Tryd.func3 (by kernel_rfl)
    (of_decide_eq_true (by kernel_rfl)) (by unfold Func.isWrapper; first | (rw [if_pos (by decide +kernel)]; kernel_rfl) | (rw [if_neg (by decide +kernel)]; exact ⟨rfl, rfl⟩))
    (fun os started H enc _ F => by rw [OpenClaim.pre_eq_preRow]; exact diskSafe_lifted os started H enc F)

theorem diskSafe_holds : Rows.DiskSafeUptoCardSaid :=
  Claim7.holds_tied_plain_at .later [] [.sentinel, .sentinel, .sentinel, .sentinel, .sentinel, .sentinel] true Rows.diskSafeUptoCard.stood.harness true
    diskSafe_row (fun _ h => by cases h) (by kernel_rfl) (fun _ h => by cases h) diskSafeUpto_row_tie rfl ⟨rfl, rfl⟩ (by kernel_rfl) rfl
    (fun f fn hf hfn => by
      obtain rfl : f = 3 := Option.some.inj ((show Tryd.prog.funcNamed "almanac/almanaclaw03.DiskSafe" = some 3 by kernel_rfl).symm.trans hf) |>.symm
      obtain rfl : fn = Tryd.f3 := (Option.some.inj (Tryd.func3.symm.trans hfn)).symm
      exact ⟨by kernel_rfl, fun j t ht => by
        rw [Tryd.params3] at ht
        have hm : t ∈ [22, 22, 23] := by simpa using Array.mem_of_getElem? ht
        have hall : ([22, 22, 23].all fun u => !Tryd.prog.wantsStandIn u) = true := by kernel_rfl
        exact (show Tryd.prog.wantsStandIn t = false by simpa using List.all_eq_true.1 hall t hm)⟩)
    (by kernel_rfl)
end Go.Proofs.YtanbmlikfhcpoaaDoor
