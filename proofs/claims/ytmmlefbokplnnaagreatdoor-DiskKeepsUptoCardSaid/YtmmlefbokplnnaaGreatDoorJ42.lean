/-
  The texts NLaid, joined. Own text.
-/
import Derived.Test.YtmmlefbokplnnaaGreatDoorJ41
import Derived.Deep.DeepHandedRow
import Derived.HandedShaped
import Derived.Lib.LaidTab
import Derived.LaidMore
import Derived.OpenShut
import Derived.Stop.Joined
import Derived.Stop.LaidErr
import Derived.Stop.LaidTwo
import Derived.Shelf.Vars
import Derived.SevenTiedAt
import Derived.Lib.SmallJoins
set_option linter.unusedVariables false
set_option linter.unusedSimpArgs false
namespace Go.Proofs.YtmmlefbokplnnaaGreatDoor.Disk
open Go.RowKit Go Go.Proofs.YtmmlefbokplnnaaGreatDoor.Base Go.Proofs.YtmmlefbokplnnaaGreatDoor.Map Go.ChangeShapes Go.WideShapes Go.ChangeAt Go.Deep

/-- what the rows list -/
def listedD : List (String × DataW Unit) := Rows.diskPlaysUptoRow.laid
def textOf : DataW Unit → List UInt8
  | .iface _ (.ptr (.agg [.lit (.string t)])) => t
  | _ => []
def txt (c : Nat) : List UInt8 :=
  if c = 1 then textOf Rows.laid_almanac_api_FailOff else if c = 2 then textOf Rows.laid_almanac_api_FailName else if c = 3 then textOf Rows.laid_almanac_api_FailKind else if c = 4 then textOf Rows.laid_almanac_api_FailMissing
  else if c = 5 then textOf Rows.laid_almanac_api_FailExists else if c = 6 then textOf Rows.laid_almanac_api_FailRange else textOf Rows.laid_almanac_api_FailSpace
theorem txt_ne : ∀ c, c < 8 → ∀ d, d < 8 → 1 ≤ c → 1 ≤ d → txt c = txt d → c = d := by decide +kernel

theorem starEs : "*" ++ "errors.errorString" = "*errors.errorString" := by decide
theorem rowEs (u : TypeId) (h : Tryz.prog.typeName? 3 u = some "*errors.errorString") : u = 185 :=
  typeName_ptr_named (nm := "errors.errorString") (by rw [starEs]; kernel_rfl) (by kernel_rfl) (by decide) u (by rw [starEs]; exact h)
theorem cellsEs : Tryz.prog.cellsOf 201 = 1 := by kernel_rfl

theorem gOff : Tryz.prog.globalNamed "almanac/api.FailOff" = some 0 := by kernel_rfl
theorem gName : Tryz.prog.globalNamed "almanac/api.FailName" = some 1 := by kernel_rfl
theorem gKind : Tryz.prog.globalNamed "almanac/api.FailKind" = some 2 := by kernel_rfl
theorem gMissing : Tryz.prog.globalNamed "almanac/api.FailMissing" = some 3 := by kernel_rfl
theorem gExists : Tryz.prog.globalNamed "almanac/api.FailExists" = some 4 := by kernel_rfl
theorem gRange : Tryz.prog.globalNamed "almanac/api.FailRange" = some 5 := by kernel_rfl
theorem gSpace : Tryz.prog.globalNamed "almanac/api.FailSpace" = some 6 := by kernel_rfl
theorem kOff : (Tryz.prog.globals[0]?).map (·.type) = some 48 := by kernel_rfl
theorem kName : (Tryz.prog.globals[1]?).map (·.type) = some 48 := by kernel_rfl
theorem kKind : (Tryz.prog.globals[2]?).map (·.type) = some 48 := by kernel_rfl
theorem kMissing : (Tryz.prog.globals[3]?).map (·.type) = some 48 := by kernel_rfl
theorem kExists : (Tryz.prog.globals[4]?).map (·.type) = some 48 := by kernel_rfl
theorem kRange : (Tryz.prog.globals[5]?).map (·.type) = some 48 := by kernel_rfl
theorem kSpace : (Tryz.prog.globals[6]?).map (·.type) = some 48 := by kernel_rfl

/-- what a failure's place holds -/
structure Held (W : World) (g : Nat) (t : List UInt8) (a : Addr) : Prop where
  var : W.cell? ⟨g, 0, none⟩ = some (.iface 185 (.pointer (some a)))
  text : ∃ s : ByteArray, W.cell? a = some (.string s) ∧ s.data.toList = t
  block : ∃ c ty, W.heap[a.block]? = some (.cells c ty (0, 0))

theorem sent2 {n0 n1 : String} {text0 text1 : List UInt8} {r : List (String × DataW Unit)} {W : World} {g0 g1 : Nat}
    (h : laidMet Tryz.prog ((n0, .iface "*errors.errorString" (.ptr (.agg [.lit (.string text0)]))) :: (n1, .iface "*errors.errorString" (.ptr (.agg [.lit (.string text1)]))) :: r) W)
    (hg0 : Tryz.prog.globalNamed n0 = some g0) (ht0 : (Tryz.prog.globals[g0]?).map (·.type) = some 48) (hg1 : Tryz.prog.globalNamed n1 = some g1) (ht1 : (Tryz.prog.globals[g1]?).map (·.type) = some 48) :
    ∃ a0 a1 : Addr, Held W g0 text0 a0 ∧ Held W g1 text1 a1 := by
  obtain ⟨a0, a1, s0, s1, c0, c1, t0, t1, v0, v1, k0, e0, _, k1, e1, _, _, b0, b1⟩ := laid_sentinels2 h hg0 ht0 hg1 ht1 Tryz.underlying48 rowEs Tryz.underlying185 Tryz.underlying201 rfl rfl Tryz.underlying9 cellsEs c_str
  exact ⟨a0, a1, ⟨by simpa using World.var?_cell hg0 v0 0, ⟨s0, k0, e0⟩, ⟨c0, t0, b0⟩⟩, ⟨by simpa using World.var?_cell hg1 v1 0, ⟨s1, k1, e1⟩, ⟨c1, t1, b1⟩⟩⟩

theorem envD_of_laid {W : World} (h : laidMetH Tryz.prog listedD W) (hsh : W.ShapedOpen Tryz.prog) : ∃ E, EnvD W E := by
  unfold listedD at h
  rw [MakeChecks.laidMetH_plain _ _ _ (by kernel_rfl)] at h
  obtain ⟨a1, a2, h1, h2⟩ := sent2 h gOff kOff gName kName
  obtain ⟨a3, a4, h3, h4⟩ := sent2 h.tail.tail gKind kKind gMissing kMissing
  obtain ⟨a5, a6, h5, h6⟩ := sent2 h.tail.tail.tail.tail gExists kExists gRange kRange
  obtain ⟨_, a7, _, h7⟩ := sent2 h.tail.tail.tail.tail.tail gRange kRange gSpace kSpace
  have hm := cell_of_shapedOpen_int (P := Tryz.prog) (g := 7) (t := 3) (zero := #[.int .i64 0]) hsh (of_decide_eq_true (by kernel_rfl)) (by kernel_rfl) rfl (by kernel_rfl) (by kernel_rfl) Tryz.underlying3
  obtain ⟨E, hE⟩ : ∃ E : Nat → Addr, E = fun c => if c = 1 then a1 else if c = 2 then a2 else if c = 3 then a3 else if c = 4 then a4 else if c = 5 then a5 else if c = 6 then a6 else a7 := ⟨_, rfl⟩
  have e1 : E 1 = a1 := by rw [hE]; rfl
  have e2 : E 2 = a2 := by rw [hE]; rfl
  have e3 : E 3 = a3 := by rw [hE]; rfl
  have e4 : E 4 = a4 := by rw [hE]; rfl
  have e5 : E 5 = a5 := by rw [hE]; rfl
  have e6 : E 6 = a6 := by rw [hE]; rfl
  have e7 : E 7 = a7 := by rw [hE]; rfl
  have key : ∀ c, 1 ≤ c → c ≤ 7 → ∃ g, Held W g (txt c) (E c) := fun c k1 k2 => by
    have hc : c = 1 ∨ c = 2 ∨ c = 3 ∨ c = 4 ∨ c = 5 ∨ c = 6 ∨ c = 7 := by omega
    rcases hc with rfl | rfl | rfl | rfl | rfl | rfl | rfl
    · rw [e1]; exact ⟨_, h1⟩
    · rw [e2]; exact ⟨_, h2⟩
    · rw [e3]; exact ⟨_, h3⟩
    · rw [e4]; exact ⟨_, h4⟩
    · rw [e5]; exact ⟨_, h5⟩
    · rw [e6]; exact ⟨_, h6⟩
    · rw [e7]; exact ⟨_, h7⟩
  refine ⟨E, ⟨hm, ?_, ?_, ?_, ?_, ?_, ?_, ?_⟩, fun c k1 k2 => ?_, fun c d k1 k2 k3 k4 hne he => ?_⟩
  · rw [← e1] at h1; exact h1.var
  · rw [← e2] at h2; exact h2.var
  · rw [← e3] at h3; exact h3.var
  · rw [← e4] at h4; exact h4.var
  · rw [← e5] at h5; exact h5.var
  · rw [← e6] at h6; exact h6.var
  · rw [← e7] at h7; exact h7.var
  · obtain ⟨g, hg⟩ := key c k1 k2
    exact hg.block
  · obtain ⟨g, hg⟩ := key c k1 k2
    obtain ⟨g', hg'⟩ := key d k3 k4
    obtain ⟨s, q1, q2⟩ := hg.text
    obtain ⟨s', q3, q4⟩ := hg'.text
    rw [he, q3] at q1
    injection q1 with q1
    injection q1 with q1
    rw [← q1, q4] at q2
    exact hne (txt_ne c (by omega) d (by omega) k1 k3 q2.symm)

theorem lowE {W : World} {E : Nat → Addr} (he : EnvD W E) : ∀ c, 1 ≤ c → c ≤ 7 → (E c).block < W.heap.size := fun c h1 h2 => by
  obtain ⟨ca, ta, e⟩ := he.blocks c h1 h2
  exact (Array.getElem?_eq_some_iff.1 e).1

/-- the blocks that every world has -/
theorem low8 {W : World} {E : Nat → Addr} (he : Env W E) : 8 ≤ W.heap.size := by
  obtain ⟨m, hm⟩ := he.max
  have h0 : 0 < W.heap.size := World.block_lt_of_cell? W _ he.off
  have h1 : 1 < W.heap.size := World.block_lt_of_cell? W _ he.name
  have h2 : 2 < W.heap.size := World.block_lt_of_cell? W _ he.kind
  have h3 : 3 < W.heap.size := World.block_lt_of_cell? W _ he.missing
  have h4 : 4 < W.heap.size := World.block_lt_of_cell? W _ he.exists'
  have h5 : 5 < W.heap.size := World.block_lt_of_cell? W _ he.range
  have h6 : 6 < W.heap.size := World.block_lt_of_cell? W _ he.space
  have h7 : 7 < W.heap.size := World.block_lt_of_cell? W _ hm
  omega

theorem doorD_met (os : Os) (args : Array Value) : laidMetH Tryz.prog listedD ((World.doorLaid Tryz.prog 400 os).forCall (fun _ _ => 0) ⟨#[], args, []⟩).memory :=
  laidMetH_of_parts3 (fuel := 8) (laidMet_of_run' 8 (by kernel_rfl) (by kernel_rfl)) (by kernel_rfl) (by kernel_rfl)

end Go.Proofs.YtmmlefbokplnnaaGreatDoor.Disk
