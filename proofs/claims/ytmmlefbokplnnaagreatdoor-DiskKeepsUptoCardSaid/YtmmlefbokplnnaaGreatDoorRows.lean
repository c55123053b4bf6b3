/-
  NARROWER THAN 'FOR EVERY INPUT', by the rows' own cells (each row's printed sentence says how): DiskPlays: laid · DiskTwins: laid · DiskAgain: laid · DiskNone: laid · DiskKeeps: laid.
  DERIVED. THE GIVEN ROWS OF THIS SEAT. 5 by the template 'for every input the law returns true; each argument reads behind the call as it read before'; 0 by the template 'total and deterministic' (their statements: YtmmlefbokplnnaaGreatDoorTotals.lean).
  GIVEN WITH THE SEED: the statements are not yours to turn. If you find one false, say at which input.
  Laid BY PROGRAM, IN A SANDBOX (cutbox-rows.mjs): the forced cells as the released guide's own fill.sh prints them over the translation 32a82b3f580da50c… (all of the seat's roots in one cut). By AI agents, Wed Nov 11 2026. No macro, syntax, notation, axiom, sorry.
-/
import Derived.Test.YtmmlefbokplnnaaGreatDoorChecked
import GoSem.Claim
import GoSem.ClaimJoined
import GoSem.ClaimMapViews
import Derived.JoinedTies
import Derived.KernelRfl
namespace Go.Proofs.YtmmlefbokplnnaaGreatDoor
/- THE CELL 'sum', in the pinned program and in every row, IS THE sha256 OF THE DUMP (.gsa) THAT YtmmlefbokplnnaaGreatDoorProg.lean LOADS. Nothing in Lean hashes anything: it is a label: what it is worth is what the hold of that sum in a sandbox is worth. -/
noncomputable def Tryz.pinned : Pinned := { name := "ytmmlefbokplnnaagreatdoor", sum := "32a82b3f580da50ce0a8bbd17b4ba3ed37b1b11e3f085d35736efb62d9b6a249", checked := Tryz.checked }
namespace Rows
def none {H : Type} : Left H := { results := [], args := [] }

/- WHAT THE LISTED PACKAGE-LEVEL VARIABLES READ AS WHEN THE CALL BEGINS. Each datum BY PROGRAM (the guide's laid-datum.mjs) off the statement by which the dump's own 'gosem.cut.vars' lays the variable. In a bare row this is a premise. The card (YtmmlefbokplnnaaGreatDoorCards.lean) ties it to the program's text. -/
def laid_almanac_api_FailOff {H : Type} : DataW H := .iface "*errors.errorString" (.ptr (.agg [.lit (.string [116, 104, 101, 32, 112, 111, 119, 101, 114, 32, 105, 115, 32, 111, 102, 102])]))
def laid_almanac_api_FailName {H : Type} : DataW H := .iface "*errors.errorString" (.ptr (.agg [.lit (.string [110, 111, 32, 112, 97, 116, 104])]))
def laid_almanac_api_FailKind {H : Type} : DataW H := .iface "*errors.errorString" (.ptr (.agg [.lit (.string [97, 32, 100, 105, 114, 101, 99, 116, 111, 114, 121])]))
def laid_almanac_api_FailMissing {H : Type} : DataW H := .iface "*errors.errorString" (.ptr (.agg [.lit (.string [110, 111, 116, 32, 116, 104, 101, 114, 101])]))
def laid_almanac_api_FailExists {H : Type} : DataW H := .iface "*errors.errorString" (.ptr (.agg [.lit (.string [116, 104, 101, 114, 101, 32, 97, 108, 114, 101, 97, 100, 121])]))
def laid_almanac_api_FailRange {H : Type} : DataW H := .iface "*errors.errorString" (.ptr (.agg [.lit (.string [111, 117, 116, 32, 111, 102, 32, 114, 97, 110, 103, 101])]))
def laid_almanac_api_FailSpace {H : Type} : DataW H := .iface "*errors.errorString" (.ptr (.agg [.lit (.string [110, 111, 32, 115, 112, 97, 99, 101])]))

/-- 'almanaclaw03.DiskPlays': WHATEVER THE INPUT: true; the input reads as it did. -/
def diskPlaysSpec : ChangeSpec := { name := "diskPlays", fn := fun _ => fun
  | [d1, d2] => { results := [.lit (.bool true)], args := [d1, d2] }
  | _ => none }
def diskPlaysRow : OpenClaim := { program := "ytmmlefbokplnnaagreatdoor", sum := "32a82b3f580da50ce0a8bbd17b4ba3ed37b1b11e3f085d35736efb62d9b6a249", func := "almanac/almanaclaw03.DiskPlays", spec := "diskPlays", inPlace := ["internal/bytealg.IndexByteString", "internal/bytealg.IndexString", "maps.clone"], unfollowed := true, recurses := true, named := ["almanac/api.FailOff", "almanac/api.FailName", "almanac/api.FailMissing", "almanac/api.FailExists", "internal/bytealg.MaxLen", "almanac/api.FailSpace", "almanac/api.FailKind", "almanac/api.FailRange"], apart := false, laid := [("almanac/api.FailOff", laid_almanac_api_FailOff), ("almanac/api.FailName", laid_almanac_api_FailName), ("almanac/api.FailKind", laid_almanac_api_FailKind), ("almanac/api.FailMissing", laid_almanac_api_FailMissing), ("almanac/api.FailExists", laid_almanac_api_FailExists), ("almanac/api.FailRange", laid_almanac_api_FailRange), ("almanac/api.FailSpace", laid_almanac_api_FailSpace)] }
def DiskPlaysSaid : Prop := diskPlaysRow.holds Tryz.pinned (OpenSpec.ofChange diskPlaysSpec)

/-- ITS FALSE NEIGHBOUR: 'it returns false'. Refute it at one input. -/
def diskPlaysWrong : ChangeSpec := { name := "diskPlays", fn := fun _ => fun
  | [d1, d2] => { results := [.lit (.bool false)], args := [d1, d2] }
  | _ => none }
def DiskPlaysWrongFalsely : Prop := diskPlaysRow.holds Tryz.pinned (OpenSpec.ofChange diskPlaysWrong)

/-- 'almanaclaw03.DiskTwins': WHATEVER THE INPUT: true; the input reads as it did. -/
def diskTwinsSpec : ChangeSpec := { name := "diskTwins", fn := fun _ => fun
  | [d1, d2] => { results := [.lit (.bool true)], args := [d1, d2] }
  | _ => none }
def diskTwinsRow : OpenClaim := { program := "ytmmlefbokplnnaagreatdoor", sum := "32a82b3f580da50ce0a8bbd17b4ba3ed37b1b11e3f085d35736efb62d9b6a249", func := "almanac/almanaclaw03.DiskTwins", spec := "diskTwins", inPlace := ["internal/bytealg.IndexByteString", "internal/bytealg.IndexString", "maps.clone"], unfollowed := true, recurses := true, named := ["almanac/api.FailOff", "almanac/api.FailName", "almanac/api.FailMissing", "almanac/api.FailExists", "internal/bytealg.MaxLen", "almanac/api.FailSpace", "almanac/api.FailKind", "almanac/api.FailRange"], apart := false, laid := [("almanac/api.FailOff", laid_almanac_api_FailOff), ("almanac/api.FailName", laid_almanac_api_FailName), ("almanac/api.FailKind", laid_almanac_api_FailKind), ("almanac/api.FailMissing", laid_almanac_api_FailMissing), ("almanac/api.FailExists", laid_almanac_api_FailExists), ("almanac/api.FailRange", laid_almanac_api_FailRange), ("almanac/api.FailSpace", laid_almanac_api_FailSpace)] }
def DiskTwinsSaid : Prop := diskTwinsRow.holds Tryz.pinned (OpenSpec.ofChange diskTwinsSpec)

/-- ITS FALSE NEIGHBOUR: 'it returns false'. Refute it at one input. -/
def diskTwinsWrong : ChangeSpec := { name := "diskTwins", fn := fun _ => fun
  | [d1, d2] => { results := [.lit (.bool false)], args := [d1, d2] }
  | _ => none }
def DiskTwinsWrongFalsely : Prop := diskTwinsRow.holds Tryz.pinned (OpenSpec.ofChange diskTwinsWrong)

/-- 'almanaclaw03.DiskAgain': WHATEVER THE INPUT: true; the input reads as it did. -/
def diskAgainSpec : ChangeSpec := { name := "diskAgain", fn := fun _ => fun
  | [d1, d2, d3] => { results := [.lit (.bool true)], args := [d1, d2, d3] }
  | _ => none }
def diskAgainRow : OpenClaim := { program := "ytmmlefbokplnnaagreatdoor", sum := "32a82b3f580da50ce0a8bbd17b4ba3ed37b1b11e3f085d35736efb62d9b6a249", func := "almanac/almanaclaw03.DiskAgain", spec := "diskAgain", inPlace := ["internal/bytealg.IndexByteString", "internal/bytealg.IndexString", "maps.clone"], unfollowed := true, recurses := true, named := ["almanac/api.FailOff", "almanac/api.FailName", "almanac/api.FailMissing", "almanac/api.FailExists", "internal/bytealg.MaxLen", "almanac/api.FailSpace", "almanac/api.FailKind", "almanac/api.FailRange"], apart := false, laid := [("almanac/api.FailOff", laid_almanac_api_FailOff), ("almanac/api.FailName", laid_almanac_api_FailName), ("almanac/api.FailKind", laid_almanac_api_FailKind), ("almanac/api.FailMissing", laid_almanac_api_FailMissing), ("almanac/api.FailExists", laid_almanac_api_FailExists), ("almanac/api.FailRange", laid_almanac_api_FailRange), ("almanac/api.FailSpace", laid_almanac_api_FailSpace)] }
def DiskAgainSaid : Prop := diskAgainRow.holds Tryz.pinned (OpenSpec.ofChange diskAgainSpec)

/-- ITS FALSE NEIGHBOUR: 'it returns false'. Refute it at one input. -/
def diskAgainWrong : ChangeSpec := { name := "diskAgain", fn := fun _ => fun
  | [d1, d2, d3] => { results := [.lit (.bool false)], args := [d1, d2, d3] }
  | _ => none }
def DiskAgainWrongFalsely : Prop := diskAgainRow.holds Tryz.pinned (OpenSpec.ofChange diskAgainWrong)

/-- 'almanaclaw03.DiskNone': WHATEVER THE INPUT: true; the input reads as it did. -/
def diskNoneSpec : ChangeSpec := { name := "diskNone", fn := fun _ => fun
  | [d] => { results := [.lit (.bool true)], args := [d] }
  | _ => none }
def diskNoneRow : OpenClaim := { program := "ytmmlefbokplnnaagreatdoor", sum := "32a82b3f580da50ce0a8bbd17b4ba3ed37b1b11e3f085d35736efb62d9b6a249", func := "almanac/almanaclaw03.DiskNone", spec := "diskNone", inPlace := ["internal/bytealg.IndexByteString", "internal/bytealg.IndexString", "maps.clone"], unfollowed := true, recurses := true, named := ["almanac/api.FailOff", "almanac/api.FailName", "almanac/api.FailExists", "internal/bytealg.MaxLen", "almanac/api.FailKind", "almanac/api.FailMissing", "almanac/api.FailRange", "almanac/api.FailSpace"], apart := false, laid := [("almanac/api.FailOff", laid_almanac_api_FailOff), ("almanac/api.FailName", laid_almanac_api_FailName), ("almanac/api.FailKind", laid_almanac_api_FailKind), ("almanac/api.FailMissing", laid_almanac_api_FailMissing), ("almanac/api.FailExists", laid_almanac_api_FailExists), ("almanac/api.FailRange", laid_almanac_api_FailRange), ("almanac/api.FailSpace", laid_almanac_api_FailSpace)] }
def DiskNoneSaid : Prop := diskNoneRow.holds Tryz.pinned (OpenSpec.ofChange diskNoneSpec)

/-- ITS FALSE NEIGHBOUR: 'it returns false'. Refute it at one input. -/
def diskNoneWrong : ChangeSpec := { name := "diskNone", fn := fun _ => fun
  | [d] => { results := [.lit (.bool false)], args := [d] }
  | _ => none }
def DiskNoneWrongFalsely : Prop := diskNoneRow.holds Tryz.pinned (OpenSpec.ofChange diskNoneWrong)

/-- 'almanaclaw03.DiskKeeps': WHATEVER THE INPUT: true; the input reads as it did. -/
def diskKeepsSpec : ChangeSpec := { name := "diskKeeps", fn := fun _ => fun
  | [d] => { results := [.lit (.bool true)], args := [d] }
  | _ => none }
def diskKeepsRow : OpenClaim := { program := "ytmmlefbokplnnaagreatdoor", sum := "32a82b3f580da50ce0a8bbd17b4ba3ed37b1b11e3f085d35736efb62d9b6a249", func := "almanac/almanaclaw03.DiskKeeps", spec := "diskKeeps", inPlace := ["internal/bytealg.IndexByteString", "internal/bytealg.IndexString", "maps.clone"], unfollowed := true, recurses := true, named := ["almanac/api.FailOff", "almanac/api.FailName", "almanac/api.FailMissing", "almanac/api.FailExists", "internal/bytealg.MaxLen", "almanac/api.FailSpace", "almanac/api.FailKind", "almanac/api.FailRange"], apart := false, laid := [("almanac/api.FailOff", laid_almanac_api_FailOff), ("almanac/api.FailName", laid_almanac_api_FailName), ("almanac/api.FailKind", laid_almanac_api_FailKind), ("almanac/api.FailMissing", laid_almanac_api_FailMissing), ("almanac/api.FailExists", laid_almanac_api_FailExists), ("almanac/api.FailRange", laid_almanac_api_FailRange), ("almanac/api.FailSpace", laid_almanac_api_FailSpace)] }
def DiskKeepsSaid : Prop := diskKeepsRow.holds Tryz.pinned (OpenSpec.ofChange diskKeepsSpec)

/-- ITS FALSE NEIGHBOUR: 'it returns false'. Refute it at one input. -/
def diskKeepsWrong : ChangeSpec := { name := "diskKeeps", fn := fun _ => fun
  | [d] => { results := [.lit (.bool false)], args := [d] }
  | _ => none }
def DiskKeepsWrongFalsely : Prop := diskKeepsRow.holds Tryz.pinned (OpenSpec.ofChange diskKeepsWrong)

/- THE SECOND FORM. 'bulk': how many values and letters a reading holds, each counted each time it is reached (what is shared counts as often as it is met; a slice's spare places count too). A statement '..UptoSaid' is the law's where the arguments, and the package variables that the reading takes, are together of bulk at most 1048576: NARROWER than '..Said'. Prove '..Said' where nothing that the law and all that it calls make is longer than what came in: it says more and counts as full. Else prove '..UptoSaid'. A law counts once. -/
mutual
def uptoBulk {H : Type} : DataW H → Nat
  | .lit (.string bytes) => bytes.length + 1
  | .lit _ => 1
  | .nil => 1
  | .ptr d => uptoBulk d + 1
  | .slice elems spare => uptoBulkAll elems + uptoBulkAll spare + 1
  | .agg parts => uptoBulkAll parts + 1
  | .iface _ d => uptoBulk d + 1
  | .map entries => uptoBulkEntries entries + 1
  | .held _ => 1
def uptoBulkAll {H : Type} : List (DataW H) → Nat
  | [] => 0
  | d :: r => uptoBulk d + uptoBulkAll r
def uptoBulkEntries {H : Type} : List (Lit × DataW H) → Nat
  | [] => 0
  | x :: r => uptoBulkEntry x + uptoBulkEntries r
def uptoBulkEntry {H : Type} : Lit × DataW H → Nat
  | (.string bytes, d) => bytes.length + uptoBulk d + 1
  | (_, d) => uptoBulk d + 1
 end
def uptoSmall : (H : Type) → List (DataW H) → Bool := fun _ ds => decide (uptoBulkAll ds ≤ 1048576)
def OpenSpec.upto (s : _root_.Go.ChangeSpec) : _root_.Go.OpenSpec := { _root_.Go.OpenSpec.ofChange s with cond := some uptoSmall }

/-- 'almanaclaw03.DiskPlays', WHERE WHAT IT READS IS OF BULK AT MOST 1048576: true; the input reads as it did. -/
def diskPlaysUptoRow : OpenClaim := { program := "ytmmlefbokplnnaagreatdoor", sum := "32a82b3f580da50ce0a8bbd17b4ba3ed37b1b11e3f085d35736efb62d9b6a249", func := "almanac/almanaclaw03.DiskPlays", spec := "diskPlays", inPlace := ["internal/bytealg.IndexByteString", "internal/bytealg.IndexString", "maps.clone"], unfollowed := true, recurses := true, named := ["almanac/api.FailOff", "almanac/api.FailName", "almanac/api.FailMissing", "almanac/api.FailExists", "internal/bytealg.MaxLen", "almanac/api.FailSpace", "almanac/api.FailKind", "almanac/api.FailRange"], apart := false, laid := [("almanac/api.FailOff", laid_almanac_api_FailOff), ("almanac/api.FailName", laid_almanac_api_FailName), ("almanac/api.FailKind", laid_almanac_api_FailKind), ("almanac/api.FailMissing", laid_almanac_api_FailMissing), ("almanac/api.FailExists", laid_almanac_api_FailExists), ("almanac/api.FailRange", laid_almanac_api_FailRange), ("almanac/api.FailSpace", laid_almanac_api_FailSpace)], narrowed := true }
def DiskPlaysUptoSaid : Prop := diskPlaysUptoRow.holds Tryz.pinned (OpenSpec.upto diskPlaysSpec)

/-- 'almanaclaw03.DiskTwins', WHERE WHAT IT READS IS OF BULK AT MOST 1048576: true; the input reads as it did. -/
def diskTwinsUptoRow : OpenClaim := { program := "ytmmlefbokplnnaagreatdoor", sum := "32a82b3f580da50ce0a8bbd17b4ba3ed37b1b11e3f085d35736efb62d9b6a249", func := "almanac/almanaclaw03.DiskTwins", spec := "diskTwins", inPlace := ["internal/bytealg.IndexByteString", "internal/bytealg.IndexString", "maps.clone"], unfollowed := true, recurses := true, named := ["almanac/api.FailOff", "almanac/api.FailName", "almanac/api.FailMissing", "almanac/api.FailExists", "internal/bytealg.MaxLen", "almanac/api.FailSpace", "almanac/api.FailKind", "almanac/api.FailRange"], apart := false, laid := [("almanac/api.FailOff", laid_almanac_api_FailOff), ("almanac/api.FailName", laid_almanac_api_FailName), ("almanac/api.FailKind", laid_almanac_api_FailKind), ("almanac/api.FailMissing", laid_almanac_api_FailMissing), ("almanac/api.FailExists", laid_almanac_api_FailExists), ("almanac/api.FailRange", laid_almanac_api_FailRange), ("almanac/api.FailSpace", laid_almanac_api_FailSpace)], narrowed := true }
def DiskTwinsUptoSaid : Prop := diskTwinsUptoRow.holds Tryz.pinned (OpenSpec.upto diskTwinsSpec)

/-- 'almanaclaw03.DiskAgain', WHERE WHAT IT READS IS OF BULK AT MOST 1048576: true; the input reads as it did. -/
def diskAgainUptoRow : OpenClaim := { program := "ytmmlefbokplnnaagreatdoor", sum := "32a82b3f580da50ce0a8bbd17b4ba3ed37b1b11e3f085d35736efb62d9b6a249", func := "almanac/almanaclaw03.DiskAgain", spec := "diskAgain", inPlace := ["internal/bytealg.IndexByteString", "internal/bytealg.IndexString", "maps.clone"], unfollowed := true, recurses := true, named := ["almanac/api.FailOff", "almanac/api.FailName", "almanac/api.FailMissing", "almanac/api.FailExists", "internal/bytealg.MaxLen", "almanac/api.FailSpace", "almanac/api.FailKind", "almanac/api.FailRange"], apart := false, laid := [("almanac/api.FailOff", laid_almanac_api_FailOff), ("almanac/api.FailName", laid_almanac_api_FailName), ("almanac/api.FailKind", laid_almanac_api_FailKind), ("almanac/api.FailMissing", laid_almanac_api_FailMissing), ("almanac/api.FailExists", laid_almanac_api_FailExists), ("almanac/api.FailRange", laid_almanac_api_FailRange), ("almanac/api.FailSpace", laid_almanac_api_FailSpace)], narrowed := true }
def DiskAgainUptoSaid : Prop := diskAgainUptoRow.holds Tryz.pinned (OpenSpec.upto diskAgainSpec)

/-- 'almanaclaw03.DiskNone', WHERE WHAT IT READS IS OF BULK AT MOST 1048576: true; the input reads as it did. -/
def diskNoneUptoRow : OpenClaim := { program := "ytmmlefbokplnnaagreatdoor", sum := "32a82b3f580da50ce0a8bbd17b4ba3ed37b1b11e3f085d35736efb62d9b6a249", func := "almanac/almanaclaw03.DiskNone", spec := "diskNone", inPlace := ["internal/bytealg.IndexByteString", "internal/bytealg.IndexString", "maps.clone"], unfollowed := true, recurses := true, named := ["almanac/api.FailOff", "almanac/api.FailName", "almanac/api.FailExists", "internal/bytealg.MaxLen", "almanac/api.FailKind", "almanac/api.FailMissing", "almanac/api.FailRange", "almanac/api.FailSpace"], apart := false, laid := [("almanac/api.FailOff", laid_almanac_api_FailOff), ("almanac/api.FailName", laid_almanac_api_FailName), ("almanac/api.FailKind", laid_almanac_api_FailKind), ("almanac/api.FailMissing", laid_almanac_api_FailMissing), ("almanac/api.FailExists", laid_almanac_api_FailExists), ("almanac/api.FailRange", laid_almanac_api_FailRange), ("almanac/api.FailSpace", laid_almanac_api_FailSpace)], narrowed := true }
def DiskNoneUptoSaid : Prop := diskNoneUptoRow.holds Tryz.pinned (OpenSpec.upto diskNoneSpec)

/-- 'almanaclaw03.DiskKeeps', WHERE WHAT IT READS IS OF BULK AT MOST 1048576: true; the input reads as it did. -/
def diskKeepsUptoRow : OpenClaim := { program := "ytmmlefbokplnnaagreatdoor", sum := "32a82b3f580da50ce0a8bbd17b4ba3ed37b1b11e3f085d35736efb62d9b6a249", func := "almanac/almanaclaw03.DiskKeeps", spec := "diskKeeps", inPlace := ["internal/bytealg.IndexByteString", "internal/bytealg.IndexString", "maps.clone"], unfollowed := true, recurses := true, named := ["almanac/api.FailOff", "almanac/api.FailName", "almanac/api.FailMissing", "almanac/api.FailExists", "internal/bytealg.MaxLen", "almanac/api.FailSpace", "almanac/api.FailKind", "almanac/api.FailRange"], apart := false, laid := [("almanac/api.FailOff", laid_almanac_api_FailOff), ("almanac/api.FailName", laid_almanac_api_FailName), ("almanac/api.FailKind", laid_almanac_api_FailKind), ("almanac/api.FailMissing", laid_almanac_api_FailMissing), ("almanac/api.FailExists", laid_almanac_api_FailExists), ("almanac/api.FailRange", laid_almanac_api_FailRange), ("almanac/api.FailSpace", laid_almanac_api_FailSpace)], narrowed := true }
def DiskKeepsUptoSaid : Prop := diskKeepsUptoRow.holds Tryz.pinned (OpenSpec.upto diskKeepsSpec)

end Rows
end Go.Proofs.YtmmlefbokplnnaaGreatDoor
