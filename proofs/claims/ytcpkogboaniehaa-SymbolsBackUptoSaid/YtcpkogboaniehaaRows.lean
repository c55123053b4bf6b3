/-
  No cell of these rows narrows 'for every input' (looked for: loops, veiled, ifaces, maps, wideKeys, modest, calm, conditions, laid).
  DERIVED. THE GIVEN ROWS OF THIS SEAT. 5 by the template 'for every input the law returns true; each argument reads behind the call as it read before'; 0 by the template 'total and deterministic' (their statements: YtcpkogboaniehaaTotals.lean).
  GIVEN WITH THE SEED: the statements are not yours to turn. If you find one false, say at which input.
  Laid BY PROGRAM, IN A SANDBOX (cutbox-rows.mjs): the forced cells as the released guide's own fill.sh prints them over the translation 3aa5591720bb6ab4… (all of the seat's roots in one cut). By AI agents, Wed Nov 11 2026. No macro, syntax, notation, axiom, sorry.
-/
import Derived.Test.YtcpkogboaniehaaChecked
import GoSem.Claim
import GoSem.ClaimJoined
import GoSem.ClaimMapViews
import Derived.JoinedTies
import Derived.KernelRfl
namespace Go.Proofs.Ytcpkogboaniehaa
/- THE CELL 'sum', in the pinned program and in every row, IS THE sha256 OF THE DUMP (.gsa) THAT YtcpkogboaniehaaProg.lean LOADS. Nothing in Lean hashes anything: it is a label: what it is worth is what the hold of that sum in a sandbox is worth. -/
noncomputable def Try.pinned : Pinned := { name := "ytcpkogboaniehaa", sum := "3aa5591720bb6ab420235f7d8efcf24dd42939993053bfb7439c3ca4ce6de3f4", checked := Try.checked }
namespace Rows
def none {H : Type} : Left H := { results := [], args := [] }

/-- 'almanaclaw05.SymbolsOf': WHATEVER THE INPUT: true; the input reads as it did. -/
def symbolsOfSpec : ChangeSpec := { name := "symbolsOf", fn := fun _ => fun
  | [d1, d2, d3] => { results := [.lit (.bool true)], args := [d1, d2, d3] }
  | _ => none }
def symbolsOfRow : OpenClaim := { program := "ytcpkogboaniehaa", sum := "3aa5591720bb6ab420235f7d8efcf24dd42939993053bfb7439c3ca4ce6de3f4", func := "almanac/almanaclaw05.SymbolsOf", spec := "symbolsOf", inPlace := ["internal/bytealg.abigen_runtime_cmpstring", "internal/abi.NoEscape"], unfollowed := true, recurses := true, apart := false }
def SymbolsOfSaid : Prop := symbolsOfRow.holds Try.pinned (OpenSpec.ofChange symbolsOfSpec)

/-- ITS FALSE NEIGHBOUR: 'it returns false'. Refute it at one input. -/
def symbolsOfWrong : ChangeSpec := { name := "symbolsOf", fn := fun _ => fun
  | [d1, d2, d3] => { results := [.lit (.bool false)], args := [d1, d2, d3] }
  | _ => none }
def SymbolsOfWrongFalsely : Prop := symbolsOfRow.holds Try.pinned (OpenSpec.ofChange symbolsOfWrong)

/-- 'almanaclaw05.SymbolsCollects': WHATEVER THE INPUT: true; the input reads as it did. -/
def symbolsCollectsSpec : ChangeSpec := { name := "symbolsCollects", fn := fun _ => fun
  | [d] => { results := [.lit (.bool true)], args := [d] }
  | _ => none }
def symbolsCollectsRow : OpenClaim := { program := "ytcpkogboaniehaa", sum := "3aa5591720bb6ab420235f7d8efcf24dd42939993053bfb7439c3ca4ce6de3f4", func := "almanac/almanaclaw05.SymbolsCollects", spec := "symbolsCollects", inPlace := ["internal/bytealg.abigen_runtime_cmpstring", "internal/abi.NoEscape"], unfollowed := true, recurses := true, apart := false }
def SymbolsCollectsSaid : Prop := symbolsCollectsRow.holds Try.pinned (OpenSpec.ofChange symbolsCollectsSpec)

/-- ITS FALSE NEIGHBOUR: 'it returns false'. Refute it at one input. -/
def symbolsCollectsWrong : ChangeSpec := { name := "symbolsCollects", fn := fun _ => fun
  | [d] => { results := [.lit (.bool false)], args := [d] }
  | _ => none }
def SymbolsCollectsWrongFalsely : Prop := symbolsCollectsRow.holds Try.pinned (OpenSpec.ofChange symbolsCollectsWrong)

/-- 'almanaclaw05.SymbolsPacks': WHATEVER THE INPUT: true; the input reads as it did. -/
def symbolsPacksSpec : ChangeSpec := { name := "symbolsPacks", fn := fun _ => fun
  | [d1, d2, d3] => { results := [.lit (.bool true)], args := [d1, d2, d3] }
  | _ => none }
def symbolsPacksRow : OpenClaim := { program := "ytcpkogboaniehaa", sum := "3aa5591720bb6ab420235f7d8efcf24dd42939993053bfb7439c3ca4ce6de3f4", func := "almanac/almanaclaw05.SymbolsPacks", spec := "symbolsPacks", inPlace := ["internal/bytealg.abigen_runtime_cmpstring", "internal/abi.NoEscape"], unfollowed := true, recurses := true, apart := false }
def SymbolsPacksSaid : Prop := symbolsPacksRow.holds Try.pinned (OpenSpec.ofChange symbolsPacksSpec)

/-- ITS FALSE NEIGHBOUR: 'it returns false'. Refute it at one input. -/
def symbolsPacksWrong : ChangeSpec := { name := "symbolsPacks", fn := fun _ => fun
  | [d1, d2, d3] => { results := [.lit (.bool false)], args := [d1, d2, d3] }
  | _ => none }
def SymbolsPacksWrongFalsely : Prop := symbolsPacksRow.holds Try.pinned (OpenSpec.ofChange symbolsPacksWrong)

/-- 'almanaclaw05.SymbolsBack': WHATEVER THE INPUT: true; the input reads as it did. -/
def symbolsBackSpec : ChangeSpec := { name := "symbolsBack", fn := fun _ => fun
  | [d] => { results := [.lit (.bool true)], args := [d] }
  | _ => none }
def symbolsBackRow : OpenClaim := { program := "ytcpkogboaniehaa", sum := "3aa5591720bb6ab420235f7d8efcf24dd42939993053bfb7439c3ca4ce6de3f4", func := "almanac/almanaclaw05.SymbolsBack", spec := "symbolsBack", inPlace := ["internal/bytealg.abigen_runtime_cmpstring", "internal/abi.NoEscape"], unfollowed := true, recurses := true, apart := false }
def SymbolsBackSaid : Prop := symbolsBackRow.holds Try.pinned (OpenSpec.ofChange symbolsBackSpec)

/-- ITS FALSE NEIGHBOUR: 'it returns false'. Refute it at one input. -/
def symbolsBackWrong : ChangeSpec := { name := "symbolsBack", fn := fun _ => fun
  | [d] => { results := [.lit (.bool false)], args := [d] }
  | _ => none }
def SymbolsBackWrongFalsely : Prop := symbolsBackRow.holds Try.pinned (OpenSpec.ofChange symbolsBackWrong)

/-- 'almanaclaw05.SymbolsNone': WHATEVER THE INPUT: true; the input reads as it did. -/
def symbolsNoneSpec : ChangeSpec := { name := "symbolsNone", fn := fun _ => fun
  | [d1, d2, d3] => { results := [.lit (.bool true)], args := [d1, d2, d3] }
  | _ => none }
def symbolsNoneRow : OpenClaim := { program := "ytcpkogboaniehaa", sum := "3aa5591720bb6ab420235f7d8efcf24dd42939993053bfb7439c3ca4ce6de3f4", func := "almanac/almanaclaw05.SymbolsNone", spec := "symbolsNone", inPlace := ["internal/bytealg.abigen_runtime_cmpstring", "internal/abi.NoEscape"], unfollowed := true, recurses := true, apart := false }
def SymbolsNoneSaid : Prop := symbolsNoneRow.holds Try.pinned (OpenSpec.ofChange symbolsNoneSpec)

/-- ITS FALSE NEIGHBOUR: 'it returns false'. Refute it at one input. -/
def symbolsNoneWrong : ChangeSpec := { name := "symbolsNone", fn := fun _ => fun
  | [d1, d2, d3] => { results := [.lit (.bool false)], args := [d1, d2, d3] }
  | _ => none }
def SymbolsNoneWrongFalsely : Prop := symbolsNoneRow.holds Try.pinned (OpenSpec.ofChange symbolsNoneWrong)

/- THE SECOND FORM. 'bulk': how many values and letters a reading holds, each counted each time it is reached (what is shared counts as often as it is met; a slice's spare places count too). A statement '..UptoSaid' is the law's where the arguments, and the package variables that the reading takes, are together of bulk at most 1048576: NARROWER than '..Said'. Prove '..Said' where nothing that the law and all that it calls make is longer than what came in: it says more and counts as full. Else prove '..UptoSaid'. A law counts once. -/
mutual
def uptoBulk {H : Type} : DataW H → Nat
  | .lit (.string bytes) => bytes.length + 1
  | .lit _ => 1
  | .nil => 1
  | .ptr d => uptoBulk d + 1
  | .slice elems spare => uptoBulkAll elems + uptoBulkAll spare + 1
  | .agg parts => uptoBulkAll parts + 1
  | .iface _ d => uptoBulk d + 1
  | .map entries => uptoBulkEntries entries + 1
  | .held _ => 1
def uptoBulkAll {H : Type} : List (DataW H) → Nat
  | [] => 0
  | d :: r => uptoBulk d + uptoBulkAll r
def uptoBulkEntries {H : Type} : List (Lit × DataW H) → Nat
  | [] => 0
  | x :: r => uptoBulkEntry x + uptoBulkEntries r
def uptoBulkEntry {H : Type} : Lit × DataW H → Nat
  | (.string bytes, d) => bytes.length + uptoBulk d + 1
  | (_, d) => uptoBulk d + 1
 end
def uptoSmall : (H : Type) → List (DataW H) → Bool := fun _ ds => decide (uptoBulkAll ds ≤ 1048576)
def OpenSpec.upto (s : _root_.Go.ChangeSpec) : _root_.Go.OpenSpec := { _root_.Go.OpenSpec.ofChange s with cond := some uptoSmall }

/-- 'almanaclaw05.SymbolsOf', WHERE WHAT IT READS IS OF BULK AT MOST 1048576: true; the input reads as it did. -/
def symbolsOfUptoRow : OpenClaim := { program := "ytcpkogboaniehaa", sum := "3aa5591720bb6ab420235f7d8efcf24dd42939993053bfb7439c3ca4ce6de3f4", func := "almanac/almanaclaw05.SymbolsOf", spec := "symbolsOf", inPlace := ["internal/bytealg.abigen_runtime_cmpstring", "internal/abi.NoEscape"], unfollowed := true, recurses := true, apart := false, narrowed := true }
def SymbolsOfUptoSaid : Prop := symbolsOfUptoRow.holds Try.pinned (OpenSpec.upto symbolsOfSpec)

/-- 'almanaclaw05.SymbolsCollects', WHERE WHAT IT READS IS OF BULK AT MOST 1048576: true; the input reads as it did. -/
def symbolsCollectsUptoRow : OpenClaim := { program := "ytcpkogboaniehaa", sum := "3aa5591720bb6ab420235f7d8efcf24dd42939993053bfb7439c3ca4ce6de3f4", func := "almanac/almanaclaw05.SymbolsCollects", spec := "symbolsCollects", inPlace := ["internal/bytealg.abigen_runtime_cmpstring", "internal/abi.NoEscape"], unfollowed := true, recurses := true, apart := false, narrowed := true }
def SymbolsCollectsUptoSaid : Prop := symbolsCollectsUptoRow.holds Try.pinned (OpenSpec.upto symbolsCollectsSpec)

/-- 'almanaclaw05.SymbolsPacks', WHERE WHAT IT READS IS OF BULK AT MOST 1048576: true; the input reads as it did. -/
def symbolsPacksUptoRow : OpenClaim := { program := "ytcpkogboaniehaa", sum := "3aa5591720bb6ab420235f7d8efcf24dd42939993053bfb7439c3ca4ce6de3f4", func := "almanac/almanaclaw05.SymbolsPacks", spec := "symbolsPacks", inPlace := ["internal/bytealg.abigen_runtime_cmpstring", "internal/abi.NoEscape"], unfollowed := true, recurses := true, apart := false, narrowed := true }
def SymbolsPacksUptoSaid : Prop := symbolsPacksUptoRow.holds Try.pinned (OpenSpec.upto symbolsPacksSpec)

/-- 'almanaclaw05.SymbolsBack', WHERE WHAT IT READS IS OF BULK AT MOST 1048576: true; the input reads as it did. -/
def symbolsBackUptoRow : OpenClaim := { program := "ytcpkogboaniehaa", sum := "3aa5591720bb6ab420235f7d8efcf24dd42939993053bfb7439c3ca4ce6de3f4", func := "almanac/almanaclaw05.SymbolsBack", spec := "symbolsBack", inPlace := ["internal/bytealg.abigen_runtime_cmpstring", "internal/abi.NoEscape"], unfollowed := true, recurses := true, apart := false, narrowed := true }
def SymbolsBackUptoSaid : Prop := symbolsBackUptoRow.holds Try.pinned (OpenSpec.upto symbolsBackSpec)

/-- 'almanaclaw05.SymbolsNone', WHERE WHAT IT READS IS OF BULK AT MOST 1048576: true; the input reads as it did. -/
def symbolsNoneUptoRow : OpenClaim := { program := "ytcpkogboaniehaa", sum := "3aa5591720bb6ab420235f7d8efcf24dd42939993053bfb7439c3ca4ce6de3f4", func := "almanac/almanaclaw05.SymbolsNone", spec := "symbolsNone", inPlace := ["internal/bytealg.abigen_runtime_cmpstring", "internal/abi.NoEscape"], unfollowed := true, recurses := true, apart := false, narrowed := true }
def SymbolsNoneUptoSaid : Prop := symbolsNoneUptoRow.holds Try.pinned (OpenSpec.upto symbolsNoneSpec)

end Rows
end Go.Proofs.Ytcpkogboaniehaa
