/-
  NARROWER THAN 'FOR EVERY INPUT', by the rows' own cells (each row's printed sentence says how): EncUints: laid · EncInts: laid · EncTexts: laid · EncSums: laid · EncFrames: laid · EncSeals: laid · EncBack: laid · EncOne: laid · EncBurst: laid.
  DERIVED. THE GIVEN ROWS OF THIS SEAT. 9 by the template 'for every input the law returns true; each argument reads behind the call as it read before'; 0 by the template 'total and deterministic' (their statements: YtdedkhifnecgkaaDoorTotals.lean).
  GIVEN WITH THE SEED: the statements are not yours to turn. If you find one false, say at which input.
  Laid BY PROGRAM, IN A SANDBOX (cutbox-rows.mjs): the forced cells as the released guide's own fill.sh prints them over the translation 5804365a207848a0… (all of the seat's roots in one cut). By AI agents, Wed Nov 11 2026. No macro, syntax, notation, axiom, sorry.
-/
import Derived.Test.YtdedkhifnecgkaaDoorChecked
import GoSem.Claim
import GoSem.ClaimJoined
import GoSem.ClaimMapViews
import Derived.JoinedTies
import Derived.KernelRfl
namespace Go.Proofs.YtdedkhifnecgkaaDoor
/- THE CELL 'sum', in the pinned program and in every row, IS THE sha256 OF THE DUMP (.gsa) THAT YtdedkhifnecgkaaDoorProg.lean LOADS. Nothing in Lean hashes anything: it is a label: what it is worth is what the hold of that sum in a sandbox is worth. -/
noncomputable def Tryd.pinned : Pinned := { name := "ytdedkhifnecgkaadoor", sum := "5804365a207848a0e868b57c44917e9521b07ce0fd4e1d4831090adfa63499f7", checked := Tryd.checked }
namespace Rows
def none {H : Type} : Left H := { results := [], args := [] }

/- WHAT THE LISTED PACKAGE-LEVEL VARIABLES READ AS WHEN THE CALL BEGINS. Each datum BY PROGRAM (the guide's laid-datum.mjs) off the statement by which the dump's own 'gosem.cut.vars' lays the variable. In a bare row this is a premise. The card (YtdedkhifnecgkaaDoorCards.lean) ties it to the program's text. -/
def laid_almanac_enc_remainders {H : Type} : DataW H := .agg [.lit (.int .u32 0), .lit (.int .u32 274646895), .lit (.int .u32 549293790), .lit (.int .u32 820201905), .lit (.int .u32 1098587580), .lit (.int .u32 1361435347), .lit (.int .u32 1640403810), .lit (.int .u32 1905808397), .lit (.int .u32 2197175160), .lit (.int .u32 2460548119), .lit (.int .u32 2722870694), .lit (.int .u32 2987750089), .lit (.int .u32 3280807620), .lit (.int .u32 3553878443), .lit (.int .u32 3811616794), .lit (.int .u32 4084100981)]

/-- 'almanaclaw02.EncUints': WHATEVER THE INPUT: true; the input reads as it did. -/
def encUintsSpec : ChangeSpec := { name := "encUints", fn := fun _ => fun
  | [d1, d2, d3] => { results := [.lit (.bool true)], args := [d1, d2, d3] }
  | _ => none }
def encUintsRow : OpenClaim := { program := "ytdedkhifnecgkaadoor", sum := "5804365a207848a0e868b57c44917e9521b07ce0fd4e1d4831090adfa63499f7", func := "almanac/almanaclaw02.EncUints", spec := "encUints", named := ["almanac/enc.remainders"], apart := false, laid := [("almanac/enc.remainders", laid_almanac_enc_remainders)] }
def EncUintsSaid : Prop := encUintsRow.holds Tryd.pinned (OpenSpec.ofChange encUintsSpec)

/-- ITS FALSE NEIGHBOUR: 'it returns false'. Refute it at one input. -/
def encUintsWrong : ChangeSpec := { name := "encUints", fn := fun _ => fun
  | [d1, d2, d3] => { results := [.lit (.bool false)], args := [d1, d2, d3] }
  | _ => none }
def EncUintsWrongFalsely : Prop := encUintsRow.holds Tryd.pinned (OpenSpec.ofChange encUintsWrong)

/-- 'almanaclaw02.EncInts': WHATEVER THE INPUT: true; the input reads as it did. -/
def encIntsSpec : ChangeSpec := { name := "encInts", fn := fun _ => fun
  | [d1, d2, d3] => { results := [.lit (.bool true)], args := [d1, d2, d3] }
  | _ => none }
def encIntsRow : OpenClaim := { program := "ytdedkhifnecgkaadoor", sum := "5804365a207848a0e868b57c44917e9521b07ce0fd4e1d4831090adfa63499f7", func := "almanac/almanaclaw02.EncInts", spec := "encInts", named := ["almanac/enc.remainders"], apart := false, laid := [("almanac/enc.remainders", laid_almanac_enc_remainders)] }
def EncIntsSaid : Prop := encIntsRow.holds Tryd.pinned (OpenSpec.ofChange encIntsSpec)

/-- ITS FALSE NEIGHBOUR: 'it returns false'. Refute it at one input. -/
def encIntsWrong : ChangeSpec := { name := "encInts", fn := fun _ => fun
  | [d1, d2, d3] => { results := [.lit (.bool false)], args := [d1, d2, d3] }
  | _ => none }
def EncIntsWrongFalsely : Prop := encIntsRow.holds Tryd.pinned (OpenSpec.ofChange encIntsWrong)

/-- 'almanaclaw02.EncTexts': WHATEVER THE INPUT: true; the input reads as it did. -/
def encTextsSpec : ChangeSpec := { name := "encTexts", fn := fun _ => fun
  | [d1, d2, d3] => { results := [.lit (.bool true)], args := [d1, d2, d3] }
  | _ => none }
def encTextsRow : OpenClaim := { program := "ytdedkhifnecgkaadoor", sum := "5804365a207848a0e868b57c44917e9521b07ce0fd4e1d4831090adfa63499f7", func := "almanac/almanaclaw02.EncTexts", spec := "encTexts", named := ["almanac/enc.remainders"], apart := false, laid := [("almanac/enc.remainders", laid_almanac_enc_remainders)] }
def EncTextsSaid : Prop := encTextsRow.holds Tryd.pinned (OpenSpec.ofChange encTextsSpec)

/-- ITS FALSE NEIGHBOUR: 'it returns false'. Refute it at one input. -/
def encTextsWrong : ChangeSpec := { name := "encTexts", fn := fun _ => fun
  | [d1, d2, d3] => { results := [.lit (.bool false)], args := [d1, d2, d3] }
  | _ => none }
def EncTextsWrongFalsely : Prop := encTextsRow.holds Tryd.pinned (OpenSpec.ofChange encTextsWrong)

/-- 'almanaclaw02.EncSums': WHATEVER THE INPUT: true; the input reads as it did. -/
def encSumsSpec : ChangeSpec := { name := "encSums", fn := fun _ => fun
  | [d] => { results := [.lit (.bool true)], args := [d] }
  | _ => none }
def encSumsRow : OpenClaim := { program := "ytdedkhifnecgkaadoor", sum := "5804365a207848a0e868b57c44917e9521b07ce0fd4e1d4831090adfa63499f7", func := "almanac/almanaclaw02.EncSums", spec := "encSums", named := ["almanac/enc.remainders"], apart := false, laid := [("almanac/enc.remainders", laid_almanac_enc_remainders)] }
def EncSumsSaid : Prop := encSumsRow.holds Tryd.pinned (OpenSpec.ofChange encSumsSpec)

/-- ITS FALSE NEIGHBOUR: 'it returns false'. Refute it at one input. -/
def encSumsWrong : ChangeSpec := { name := "encSums", fn := fun _ => fun
  | [d] => { results := [.lit (.bool false)], args := [d] }
  | _ => none }
def EncSumsWrongFalsely : Prop := encSumsRow.holds Tryd.pinned (OpenSpec.ofChange encSumsWrong)

/-- 'almanaclaw02.EncFrames': WHATEVER THE INPUT: true; the input reads as it did. -/
def encFramesSpec : ChangeSpec := { name := "encFrames", fn := fun _ => fun
  | [d1, d2, d3] => { results := [.lit (.bool true)], args := [d1, d2, d3] }
  | _ => none }
def encFramesRow : OpenClaim := { program := "ytdedkhifnecgkaadoor", sum := "5804365a207848a0e868b57c44917e9521b07ce0fd4e1d4831090adfa63499f7", func := "almanac/almanaclaw02.EncFrames", spec := "encFrames", named := ["almanac/enc.remainders"], apart := false, laid := [("almanac/enc.remainders", laid_almanac_enc_remainders)] }
def EncFramesSaid : Prop := encFramesRow.holds Tryd.pinned (OpenSpec.ofChange encFramesSpec)

/-- ITS FALSE NEIGHBOUR: 'it returns false'. Refute it at one input. -/
def encFramesWrong : ChangeSpec := { name := "encFrames", fn := fun _ => fun
  | [d1, d2, d3] => { results := [.lit (.bool false)], args := [d1, d2, d3] }
  | _ => none }
def EncFramesWrongFalsely : Prop := encFramesRow.holds Tryd.pinned (OpenSpec.ofChange encFramesWrong)

/-- 'almanaclaw02.EncSeals': WHATEVER THE INPUT: true; the input reads as it did. -/
def encSealsSpec : ChangeSpec := { name := "encSeals", fn := fun _ => fun
  | [d1, d2] => { results := [.lit (.bool true)], args := [d1, d2] }
  | _ => none }
def encSealsRow : OpenClaim := { program := "ytdedkhifnecgkaadoor", sum := "5804365a207848a0e868b57c44917e9521b07ce0fd4e1d4831090adfa63499f7", func := "almanac/almanaclaw02.EncSeals", spec := "encSeals", named := ["almanac/enc.remainders"], apart := false, laid := [("almanac/enc.remainders", laid_almanac_enc_remainders)] }
def EncSealsSaid : Prop := encSealsRow.holds Tryd.pinned (OpenSpec.ofChange encSealsSpec)

/-- ITS FALSE NEIGHBOUR: 'it returns false'. Refute it at one input. -/
def encSealsWrong : ChangeSpec := { name := "encSeals", fn := fun _ => fun
  | [d1, d2] => { results := [.lit (.bool false)], args := [d1, d2] }
  | _ => none }
def EncSealsWrongFalsely : Prop := encSealsRow.holds Tryd.pinned (OpenSpec.ofChange encSealsWrong)

/-- 'almanaclaw02.EncBack': WHATEVER THE INPUT: true; the input reads as it did. -/
def encBackSpec : ChangeSpec := { name := "encBack", fn := fun _ => fun
  | [d1, d2, d3] => { results := [.lit (.bool true)], args := [d1, d2, d3] }
  | _ => none }
def encBackRow : OpenClaim := { program := "ytdedkhifnecgkaadoor", sum := "5804365a207848a0e868b57c44917e9521b07ce0fd4e1d4831090adfa63499f7", func := "almanac/almanaclaw02.EncBack", spec := "encBack", named := ["almanac/enc.remainders"], apart := false, laid := [("almanac/enc.remainders", laid_almanac_enc_remainders)] }
def EncBackSaid : Prop := encBackRow.holds Tryd.pinned (OpenSpec.ofChange encBackSpec)

/-- ITS FALSE NEIGHBOUR: 'it returns false'. Refute it at one input. -/
def encBackWrong : ChangeSpec := { name := "encBack", fn := fun _ => fun
  | [d1, d2, d3] => { results := [.lit (.bool false)], args := [d1, d2, d3] }
  | _ => none }
def EncBackWrongFalsely : Prop := encBackRow.holds Tryd.pinned (OpenSpec.ofChange encBackWrong)

/-- 'almanaclaw02.EncOne': WHATEVER THE INPUT: true; the input reads as it did. -/
def encOneSpec : ChangeSpec := { name := "encOne", fn := fun _ => fun
  | [d1, d2] => { results := [.lit (.bool true)], args := [d1, d2] }
  | _ => none }
def encOneRow : OpenClaim := { program := "ytdedkhifnecgkaadoor", sum := "5804365a207848a0e868b57c44917e9521b07ce0fd4e1d4831090adfa63499f7", func := "almanac/almanaclaw02.EncOne", spec := "encOne", named := ["almanac/enc.remainders"], apart := false, laid := [("almanac/enc.remainders", laid_almanac_enc_remainders)] }
def EncOneSaid : Prop := encOneRow.holds Tryd.pinned (OpenSpec.ofChange encOneSpec)

/-- ITS FALSE NEIGHBOUR: 'it returns false'. Refute it at one input. -/
def encOneWrong : ChangeSpec := { name := "encOne", fn := fun _ => fun
  | [d1, d2] => { results := [.lit (.bool false)], args := [d1, d2] }
  | _ => none }
def EncOneWrongFalsely : Prop := encOneRow.holds Tryd.pinned (OpenSpec.ofChange encOneWrong)

/-- 'almanaclaw02.EncBurst': WHATEVER THE INPUT: true; the input reads as it did. -/
def encBurstSpec : ChangeSpec := { name := "encBurst", fn := fun _ => fun
  | [d] => { results := [.lit (.bool true)], args := [d] }
  | _ => none }
def encBurstRow : OpenClaim := { program := "ytdedkhifnecgkaadoor", sum := "5804365a207848a0e868b57c44917e9521b07ce0fd4e1d4831090adfa63499f7", func := "almanac/almanaclaw02.EncBurst", spec := "encBurst", named := ["almanac/enc.remainders"], apart := false, laid := [("almanac/enc.remainders", laid_almanac_enc_remainders)] }
def EncBurstSaid : Prop := encBurstRow.holds Tryd.pinned (OpenSpec.ofChange encBurstSpec)

/-- ITS FALSE NEIGHBOUR: 'it returns false'. Refute it at one input. -/
def encBurstWrong : ChangeSpec := { name := "encBurst", fn := fun _ => fun
  | [d] => { results := [.lit (.bool false)], args := [d] }
  | _ => none }
def EncBurstWrongFalsely : Prop := encBurstRow.holds Tryd.pinned (OpenSpec.ofChange encBurstWrong)

/- THE SECOND FORM. 'bulk': how many values and letters a reading holds, each counted each time it is reached (what is shared counts as often as it is met; a slice's spare places count too). A statement '..UptoSaid' is the law's where the arguments, and the package variables that the reading takes, are together of bulk at most 1048576: NARROWER than '..Said'. Prove '..Said' where nothing that the law and all that it calls make is longer than what came in: it says more and counts as full. Else prove '..UptoSaid'. A law counts once. -/
mutual
def uptoBulk {H : Type} : DataW H → Nat
  | .lit (.string bytes) => bytes.length + 1
  | .lit _ => 1
  | .nil => 1
  | .ptr d => uptoBulk d + 1
  | .slice elems spare => uptoBulkAll elems + uptoBulkAll spare + 1
  | .agg parts => uptoBulkAll parts + 1
  | .iface _ d => uptoBulk d + 1
  | .map entries => uptoBulkEntries entries + 1
  | .held _ => 1
def uptoBulkAll {H : Type} : List (DataW H) → Nat
  | [] => 0
  | d :: r => uptoBulk d + uptoBulkAll r
def uptoBulkEntries {H : Type} : List (Lit × DataW H) → Nat
  | [] => 0
  | x :: r => uptoBulkEntry x + uptoBulkEntries r
def uptoBulkEntry {H : Type} : Lit × DataW H → Nat
  | (.string bytes, d) => bytes.length + uptoBulk d + 1
  | (_, d) => uptoBulk d + 1
 end
def uptoSmall : (H : Type) → List (DataW H) → Bool := fun _ ds => decide (uptoBulkAll ds ≤ 1048576)
def OpenSpec.upto (s : _root_.Go.ChangeSpec) : _root_.Go.OpenSpec := { _root_.Go.OpenSpec.ofChange s with cond := some uptoSmall }

/-- 'almanaclaw02.EncUints', WHERE WHAT IT READS IS OF BULK AT MOST 1048576: true; the input reads as it did. -/
def encUintsUptoRow : OpenClaim := { program := "ytdedkhifnecgkaadoor", sum := "5804365a207848a0e868b57c44917e9521b07ce0fd4e1d4831090adfa63499f7", func := "almanac/almanaclaw02.EncUints", spec := "encUints", named := ["almanac/enc.remainders"], apart := false, laid := [("almanac/enc.remainders", laid_almanac_enc_remainders)], narrowed := true }
def EncUintsUptoSaid : Prop := encUintsUptoRow.holds Tryd.pinned (OpenSpec.upto encUintsSpec)

/-- 'almanaclaw02.EncInts', WHERE WHAT IT READS IS OF BULK AT MOST 1048576: true; the input reads as it did. -/
def encIntsUptoRow : OpenClaim := { program := "ytdedkhifnecgkaadoor", sum := "5804365a207848a0e868b57c44917e9521b07ce0fd4e1d4831090adfa63499f7", func := "almanac/almanaclaw02.EncInts", spec := "encInts", named := ["almanac/enc.remainders"], apart := false, laid := [("almanac/enc.remainders", laid_almanac_enc_remainders)], narrowed := true }
def EncIntsUptoSaid : Prop := encIntsUptoRow.holds Tryd.pinned (OpenSpec.upto encIntsSpec)

/-- 'almanaclaw02.EncTexts', WHERE WHAT IT READS IS OF BULK AT MOST 1048576: true; the input reads as it did. -/
def encTextsUptoRow : OpenClaim := { program := "ytdedkhifnecgkaadoor", sum := "5804365a207848a0e868b57c44917e9521b07ce0fd4e1d4831090adfa63499f7", func := "almanac/almanaclaw02.EncTexts", spec := "encTexts", named := ["almanac/enc.remainders"], apart := false, laid := [("almanac/enc.remainders", laid_almanac_enc_remainders)], narrowed := true }
def EncTextsUptoSaid : Prop := encTextsUptoRow.holds Tryd.pinned (OpenSpec.upto encTextsSpec)

/-- 'almanaclaw02.EncSums', WHERE WHAT IT READS IS OF BULK AT MOST 1048576: true; the input reads as it did. -/
def encSumsUptoRow : OpenClaim := { program := "ytdedkhifnecgkaadoor", sum := "5804365a207848a0e868b57c44917e9521b07ce0fd4e1d4831090adfa63499f7", func := "almanac/almanaclaw02.EncSums", spec := "encSums", named := ["almanac/enc.remainders"], apart := false, laid := [("almanac/enc.remainders", laid_almanac_enc_remainders)], narrowed := true }
def EncSumsUptoSaid : Prop := encSumsUptoRow.holds Tryd.pinned (OpenSpec.upto encSumsSpec)

/-- 'almanaclaw02.EncFrames', WHERE WHAT IT READS IS OF BULK AT MOST 1048576: true; the input reads as it did. -/
def encFramesUptoRow : OpenClaim := { program := "ytdedkhifnecgkaadoor", sum := "5804365a207848a0e868b57c44917e9521b07ce0fd4e1d4831090adfa63499f7", func := "almanac/almanaclaw02.EncFrames", spec := "encFrames", named := ["almanac/enc.remainders"], apart := false, laid := [("almanac/enc.remainders", laid_almanac_enc_remainders)], narrowed := true }
def EncFramesUptoSaid : Prop := encFramesUptoRow.holds Tryd.pinned (OpenSpec.upto encFramesSpec)

/-- 'almanaclaw02.EncSeals', WHERE WHAT IT READS IS OF BULK AT MOST 1048576: true; the input reads as it did. -/
def encSealsUptoRow : OpenClaim := { program := "ytdedkhifnecgkaadoor", sum := "5804365a207848a0e868b57c44917e9521b07ce0fd4e1d4831090adfa63499f7", func := "almanac/almanaclaw02.EncSeals", spec := "encSeals", named := ["almanac/enc.remainders"], apart := false, laid := [("almanac/enc.remainders", laid_almanac_enc_remainders)], narrowed := true }
def EncSealsUptoSaid : Prop := encSealsUptoRow.holds Tryd.pinned (OpenSpec.upto encSealsSpec)

/-- 'almanaclaw02.EncBack', WHERE WHAT IT READS IS OF BULK AT MOST 1048576: true; the input reads as it did. -/
def encBackUptoRow : OpenClaim := { program := "ytdedkhifnecgkaadoor", sum := "5804365a207848a0e868b57c44917e9521b07ce0fd4e1d4831090adfa63499f7", func := "almanac/almanaclaw02.EncBack", spec := "encBack", named := ["almanac/enc.remainders"], apart := false, laid := [("almanac/enc.remainders", laid_almanac_enc_remainders)], narrowed := true }
def EncBackUptoSaid : Prop := encBackUptoRow.holds Tryd.pinned (OpenSpec.upto encBackSpec)

/-- 'almanaclaw02.EncOne', WHERE WHAT IT READS IS OF BULK AT MOST 1048576: true; the input reads as it did. -/
def encOneUptoRow : OpenClaim := { program := "ytdedkhifnecgkaadoor", sum := "5804365a207848a0e868b57c44917e9521b07ce0fd4e1d4831090adfa63499f7", func := "almanac/almanaclaw02.EncOne", spec := "encOne", named := ["almanac/enc.remainders"], apart := false, laid := [("almanac/enc.remainders", laid_almanac_enc_remainders)], narrowed := true }
def EncOneUptoSaid : Prop := encOneUptoRow.holds Tryd.pinned (OpenSpec.upto encOneSpec)

/-- 'almanaclaw02.EncBurst', WHERE WHAT IT READS IS OF BULK AT MOST 1048576: true; the input reads as it did. -/
def encBurstUptoRow : OpenClaim := { program := "ytdedkhifnecgkaadoor", sum := "5804365a207848a0e868b57c44917e9521b07ce0fd4e1d4831090adfa63499f7", func := "almanac/almanaclaw02.EncBurst", spec := "encBurst", named := ["almanac/enc.remainders"], apart := false, laid := [("almanac/enc.remainders", laid_almanac_enc_remainders)], narrowed := true }
def EncBurstUptoSaid : Prop := encBurstUptoRow.holds Tryd.pinned (OpenSpec.upto encBurstSpec)

end Rows
end Go.Proofs.YtdedkhifnecgkaaDoor
