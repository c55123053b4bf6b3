/-
  What the listed error variables give; the shape of the world; the witness's world. Own text.
-/
import Derived.Test.YtbgogipdldegdaaGreatDoorDIns
import Derived.HandedShaped
import Derived.Lib.LaidTab
import Derived.LaidMore
import Derived.OpenShut
import Derived.Stop.Joined
import Derived.Stop.LaidErr
import Derived.Shelf.Vars
import Derived.SevenTiedAt
import Derived.Lib.SmallJoins
namespace Go.Proofs.YtbgogipdldegdaaGreatDoor.Disk
open Go.RowKit Go Go.Proofs.YtbgogipdldegdaaGreatDoor.Base Go.Proofs.YtbgogipdldegdaaGreatDoor.Map Go.ChangeShapes Go.WideShapes Go.ChangeAt Go.Deep

/-- what the rows list -/
def listed : List (String × DataW Unit) := Rows.diskNoneRow.laid

theorem starEs : "*" ++ "errors.errorString" = "*errors.errorString" := by decide
theorem rowEs (u : TypeId) (h : Tryz.prog.typeName? 3 u = some "*errors.errorString") : u = 185 :=
  typeName_ptr_named (nm := "errors.errorString") (by rw [starEs]; kernel_rfl) (by kernel_rfl) (by decide) u (by rw [starEs]; exact h)
theorem cellsEs : Tryz.prog.cellsOf 201 = 1 := by kernel_rfl

theorem g1 : Tryz.prog.globalNamed "almanac/api.FailOff" = some 0 := by kernel_rfl
theorem g2 : Tryz.prog.globalNamed "almanac/api.FailName" = some 1 := by kernel_rfl
theorem g3 : Tryz.prog.globalNamed "almanac/api.FailKind" = some 2 := by kernel_rfl
theorem g4 : Tryz.prog.globalNamed "almanac/api.FailMissing" = some 3 := by kernel_rfl
theorem g5 : Tryz.prog.globalNamed "almanac/api.FailExists" = some 4 := by kernel_rfl
theorem g6 : Tryz.prog.globalNamed "almanac/api.FailRange" = some 5 := by kernel_rfl
theorem g7 : Tryz.prog.globalNamed "almanac/api.FailSpace" = some 6 := by kernel_rfl
theorem k1 : (Tryz.prog.globals[0]?).map (·.type) = some 48 := by kernel_rfl
theorem k2 : (Tryz.prog.globals[1]?).map (·.type) = some 48 := by kernel_rfl
theorem k3 : (Tryz.prog.globals[2]?).map (·.type) = some 48 := by kernel_rfl
theorem k4 : (Tryz.prog.globals[3]?).map (·.type) = some 48 := by kernel_rfl
theorem k5 : (Tryz.prog.globals[4]?).map (·.type) = some 48 := by kernel_rfl
theorem k6 : (Tryz.prog.globals[5]?).map (·.type) = some 48 := by kernel_rfl
theorem k7 : (Tryz.prog.globals[6]?).map (·.type) = some 48 := by kernel_rfl

theorem sent {n : String} {text : List UInt8} {r : List (String × DataW Unit)} {W : World} {g : Nat} (h : laidMet Tryz.prog ((n, .iface "*errors.errorString" (.ptr (.agg [.lit (.string text)]))) :: r) W) (hg : Tryz.prog.globalNamed n = some g) (ht : (Tryz.prog.globals[g]?).map (·.type) = some 48) :
    ∃ a : Addr, W.cell? ⟨g, 0, none⟩ = some (.iface 185 (.pointer (some a))) := by
  obtain ⟨a, s, hv, _⟩ := laid_sentinel h hg ht Tryz.underlying48 rowEs Tryz.underlying185 Tryz.underlying201 rfl rfl Tryz.underlying9 cellsEs c_str
  exact ⟨a, by simpa using World.var?_cell hg hv 0⟩

theorem env_of_laid {W : World} (h : laidMetH Tryz.prog listed W) (hsh : W.ShapedOpen Tryz.prog) : ∃ E, Env W E := by
  unfold listed at h
  rw [MakeChecks.laidMetH_plain _ _ _ (by kernel_rfl)] at h
  obtain ⟨a1, c1⟩ := sent h g1 k1
  obtain ⟨a2, c2⟩ := sent h.tail g2 k2
  obtain ⟨a3, c3⟩ := sent h.tail.tail g3 k3
  obtain ⟨a4, c4⟩ := sent h.tail.tail.tail g4 k4
  obtain ⟨a5, c5⟩ := sent h.tail.tail.tail.tail g5 k5
  obtain ⟨a6, c6⟩ := sent h.tail.tail.tail.tail.tail g6 k6
  obtain ⟨a7, c7⟩ := sent h.tail.tail.tail.tail.tail.tail g7 k7
  refine ⟨fun c => if c = 1 then a1 else if c = 2 then a2 else if c = 3 then a3 else if c = 4 then a4 else if c = 5 then a5 else if c = 6 then a6 else a7, ?_⟩
  have hm := cell_of_shapedOpen_int (P := Tryz.prog) (g := 7) (t := 3) (zero := #[.int .i64 0]) hsh (of_decide_eq_true (by kernel_rfl)) (by kernel_rfl) rfl (by kernel_rfl) (by kernel_rfl) Tryz.underlying3
  exact ⟨hm, c1, c2, c3, c4, c5, c6, c7⟩

theorem low8 {W : World} {E : Nat → Addr} (he : Env W E) : 8 ≤ W.heap.size := by
  obtain ⟨m, hm⟩ := he.max
  have h0 : 0 < W.heap.size := World.block_lt_of_cell? W _ he.off
  have h1 : 1 < W.heap.size := World.block_lt_of_cell? W _ he.name
  have h2 : 2 < W.heap.size := World.block_lt_of_cell? W _ he.kind
  have h3 : 3 < W.heap.size := World.block_lt_of_cell? W _ he.missing
  have h4 : 4 < W.heap.size := World.block_lt_of_cell? W _ he.exists'
  have h5 : 5 < W.heap.size := World.block_lt_of_cell? W _ he.range
  have h6 : 6 < W.heap.size := World.block_lt_of_cell? W _ he.space
  have h7 : 7 < W.heap.size := World.block_lt_of_cell? W _ hm
  omega

/-- the plain wrap, with the listed variables and with the world's shape -/
theorem handed {H : Type} {enc : TypeId × Value → H} {a : Assume} {C : Checked} {os : Os} {f : FuncId} {fn : Func} {s : ChangeSpec} {conds : List PathCond} {apart fresh handsOn again : Bool} {X : World → Array Value → Prop}
    (hX : ∀ (w w' : World) (args : Array Value), w.heap = w'.heap → X w args → X w' args)
    (own : ownKnob C.prog.godebug = none) (started : os.Started) (noInit : C.prog.inits.idxOf? f = none) (hfn : C.prog.funcs[f]? = some fn)
    (witness : ∃ (w : World) (tape : Tape) (i : Input), w.os = os ∧ (w.forCall tape i).Shaped C.prog ∧ i.vars = [] ∧ Input.okWide C.prog (w.forCall tape i) .any w.heap.size f i ∧
      ((s.pre enc C.prog fn conds apart (w.forCall tape i).memory i.args ∧ X (w.forCall tape i).memory i.args) ∧ sizedMet enc C.prog fn (OpenSpec.ofChange s) apart (w.forCall tape i).memory i.args) ∧ a.holds C.prog (lone (Frame.enter C.prog f i.args .normal) [] (w.forCall tape i)))
    (contract : ∀ (W : World) (base : Nat) (args : Array Value) (ds gs : List (DataW H)) (before : List MemPlace),
      (∀ (j : Nat) t v, fn.params[j]? = some t → args[j]? = some v → Value.okWide C.prog W .any base t v) →
      DataW.Whole enc C.prog fn.params.toList s.vars apart W args.toList ds gs before →
      (DataW.weightsEach C.prog (fn.params.toList ++ s.plain.varTypes C.prog) (ds ++ gs)).all (· ≤ reachBytes) = true → X W args → W.ShapedOpen C.prog →
      Calls C.prog f args W fun e W' => ∃ v, e = .returned v ∧ s.post enc C.prog fn apart fresh handsOn again W args v W') :
    ReturnsInHanded a C os f .any (fun w args => (s.pre enc C.prog fn conds apart w args ∧ X w args) ∧ sizedMet enc C.prog fn (OpenSpec.ofChange s) apart w args) (s.post enc C.prog fn apart fresh handsOn again) := by
  refine returnsInHanded_of_calls own started noInit witness ?_
  intro w tape i _ hsh _ hok hpre _
  obtain ⟨_, _, _, fn', hfn', _, _, _, _, hval⟩ := hok
  have e : fn' = fn := Option.some.inj (hfn'.symm.trans hfn)
  subst e
  obtain ⟨⟨⟨ds, gs, before, hw, _⟩, hx⟩, hz⟩ := hpre
  have hw' := DataW.Whole.of_heap (w' := w.forCall tape i) (by rfl) hw
  refine (contract (w.forCall tape i) w.heap.size i.args ds gs before hval hw' (hz.weights hw) (hX _ _ _ (by rfl) hx) hsh).mono fun e W' ⟨v, he, hp⟩ => ?_
  subst he
  exact ChangeSpec.post_blind hp

/-- the door's own heap meets the condition -/
theorem door_met (os : Os) (args : Array Value) : laidMetH Tryz.prog listed ((World.doorLaid Tryz.prog 400 os).forCall (fun _ _ => 0) ⟨#[], args, []⟩).memory :=
  laidMetH_of_parts3 (fuel := 8) (laidMet_of_run' 8 (by kernel_rfl) (by kernel_rfl)) (by kernel_rfl) (by kernel_rfl)

end Go.Proofs.YtbgogipdldegdaaGreatDoor.Disk
