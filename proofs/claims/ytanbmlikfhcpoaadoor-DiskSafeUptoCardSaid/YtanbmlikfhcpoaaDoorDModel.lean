/-
  The document's disk, as plain data: names, things, names steps, and what each call answers and leaves. Own text, no program.
-/
import Derived.Test.YtanbmlikfhcpoaaDoorDFile
import Derived.Test.YtanbmlikfhcpoaaDoorBase
namespace Go.Proofs.YtanbmlikfhcpoaaDoor.Disk
open Go.Proofs.YtanbmlikfhcpoaaDoor.Base

/-- where the first slash is: the size, if there is none -/
def sl (s : ByteArray) : Nat := (nums s).findIdx (· == 47)
theorem sl_le (s : ByteArray) : sl s ≤ s.size := by
  unfold sl; rw [← nums_length]; exact List.findIdx_le_length
theorem sl_before (s : ByteArray) (i : Nat) (h : i < sl s) : at8 s i ≠ 47 := by
  have hi : i < (nums s).length := by have := sl_le s; rw [nums_length]; omega
  have := List.not_of_lt_findIdx (p := (· == 47)) (xs := nums s) h
  unfold at8
  rw [List.getD, List.getElem?_eq_getElem hi, Option.getD_some]
  simpa using this
theorem sl_at (s : ByteArray) (h : sl s < s.size) : at8 s (sl s) = 47 := by
  have hi : sl s < (nums s).length := by rw [nums_length]; omega
  have := List.findIdx_getElem (p := (· == 47)) (xs := nums s) (w := hi)
  unfold at8
  rw [List.getD, List.getElem?_eq_getElem hi, Option.getD_some]
  exact beq_iff_eq.1 this

/-- a byte of a name -/
def okByte (b : Nat) : Bool := decide (97 ≤ b ∧ b ≤ 122) || decide (48 ≤ b ∧ b ≤ 57) || b == 46 || b == 45
def isName (s : ByteArray) : Bool := decide (1 ≤ s.size ∧ s.size ≤ 32) && (nums s).all okByte
def dirOf (s : ByteArray) : ByteArray := if sl s < s.size then s.extract 0 (sl s) else ByteArray.empty
def baseOf (s : ByteArray) : ByteArray := if sl s < s.size then s.extract (sl s + 1) s.size else s
def isPath (s : ByteArray) : Bool := if sl s < s.size then isName (s.extract 0 (sl s)) && isName (s.extract (sl s + 1) s.size) else isName s

structure Thing where
  path : ByteArray
  dir : Bool
  num : Nat

/-- a names step: 1 mkdir, 2 create, 3 rename, 4 remove -/
structure NStep where
  kind : Nat
  a : ByteArray
  b : ByteArray
  num : Nat

structure M where
  things : List Thing
  safe : List Thing
  steps : List NStep
  files : List FB
  cap : Nat
  off : Bool
  await : Nat

def find (l : List Thing) (p : ByteArray) : Option Thing := l.find? fun x => x.path = p
/-- 0: no such thing, 1: a file, 2: a directory -/
def isAt (l : List Thing) (p : ByteArray) : Nat := match find l p with | none => 0 | some x => if x.dir then 2 else 1
def parent (l : List Thing) (p : ByteArray) : Bool := if sl p < p.size then isAt l (p.extract 0 (sl p)) == 2 else true
/-- the path lies in that directory -/
def inside (p d : ByteArray) : Bool := decide (d.size < p.size) && decide (p.extract 0 d.size = d) && (at8 p d.size == 47)

/-- a thing behind a names step -/
def moved (s : NStep) (x : Thing) : Option Thing :=
  if s.kind = 4 then (if x.path = s.a ∨ inside x.path s.a = true then none else some x)
  else if s.kind = 3 then
    (if x.path = s.b then none else if x.path = s.a then some { x with path := s.b } else if inside x.path s.a then some { x with path := s.b ++ x.path.extract s.a.size x.path.size } else some x)
  else some x
def born (s : NStep) : List Thing :=
  if s.kind = 1 then [⟨s.a, true, 0⟩] else if s.kind = 2 then [⟨s.a, false, s.num⟩] else []
def applied (l : List Thing) (s : NStep) : List Thing := l.filterMap (moved s) ++ born s
def appliedAll (l : List Thing) (ss : List NStep) : List Thing := ss.foldl applied l

/-- a step is taken; or the power goes off -/
def M.tick (m : M) : Bool := m.await == 1
def M.ticked (m : M) : M := if m.await = 1 then { m with await := 0, off := true } else { m with await := m.await - 1 }

def M.names (m : M) (s : NStep) : Nat × M :=
  if m.await = 1 then (1, m.ticked) else (0, { m.ticked with things := applied m.things s, steps := m.steps ++ [s] })

/-- Used -/
def lenAt (fs : List FB) (i : Nat) : Nat := match fs[i]? with | some f => f.now.length | none => 0
def usedBy (fs : List FB) (l : List Thing) : Nat := (l.map fun x => if x.dir then 0 else lenAt fs x.num).sum
def M.used (m : M) : Nat := if m.off then 0 else usedBy m.files m.things

def M.mkdir (m : M) (d : ByteArray) : Nat × M :=
  if m.off then (1, m) else if isName d = false then (2, m) else if isAt m.things d ≠ 0 then (5, m) else m.names ⟨1, d, ByteArray.empty, 0⟩

def M.create (m : M) (p : ByteArray) : Nat × M :=
  if m.off then (1, m) else if isPath p = false then (2, m) else if parent m.things p = false then (4, m) else if isAt m.things p ≠ 0 then (5, m)
  else if m.await = 1 then (1, m.ticked) else (0, { (m.names ⟨2, p, ByteArray.empty, m.files.length⟩).2 with files := m.files ++ [⟨[], [], []⟩] })

/-- the number of a file's bytes, or the failure -/
def M.file (m : M) (p : ByteArray) : Nat × Nat :=
  if m.off then (0, 1) else if isPath p = false then (0, 2) else match find m.things p with | none => (0, 4) | some x => if x.dir then (0, 3) else (x.num, 0)

def M.setFile (m : M) (i : Nat) (f : FB) : M := { m with files := m.files.set i f }
def M.fileAt (m : M) (i : Nat) : FB := m.files.getD i ⟨[], [], []⟩

def M.append (m : M) (p : ByteArray) (t : List Nat) : Nat × M :=
  if (m.file p).2 ≠ 0 then ((m.file p).2, m)
  else if m.cap < m.used + t.length then (7, m)
  else if m.await = 1 then (1, m.ticked)
  else (0, m.ticked.setFile (m.file p).1 ⟨(m.fileAt (m.file p).1).now ++ t, (m.fileAt (m.file p).1).safe, (m.fileAt (m.file p).1).steps ++ [⟨t, false, 0⟩]⟩)

def M.cut (m : M) (p : ByteArray) (n : Int) : Nat × M :=
  if (m.file p).2 ≠ 0 then ((m.file p).2, m)
  else if n < 0 ∨ ((m.fileAt (m.file p).1).now.length : Int) < n then (6, m)
  else if m.await = 1 then (1, m.ticked)
  else (0, m.ticked.setFile (m.file p).1 ⟨(m.fileAt (m.file p).1).now.take n.toNat, (m.fileAt (m.file p).1).safe, (m.fileAt (m.file p).1).steps ++ [⟨[], true, n.toNat⟩]⟩)

def M.sync (m : M) (p : ByteArray) : Nat × M :=
  if (m.file p).2 ≠ 0 then ((m.file p).2, m)
  else if m.await = 1 then (1, m.ticked)
  else (0, m.ticked.setFile (m.file p).1 ⟨(m.fileAt (m.file p).1).now, (m.fileAt (m.file p).1).now, []⟩)

def M.syncNames (m : M) : Nat × M :=
  if m.off then (1, m) else if m.await = 1 then (1, m.ticked) else (0, { m.ticked with safe := m.things, steps := [] })

def M.rename (m : M) (a b : ByteArray) : Nat × M :=
  if m.off then (1, m) else if (isPath a && isPath b) = false then (2, m) else if isAt m.things a = 2 ∧ isName b = false then (2, m)
  else if isAt m.things a = 0 ∨ parent m.things b = false then (4, m)
  else if isAt m.things b = 2 ∨ (isAt m.things b = 1 ∧ (isAt m.things a = 2 ∨ a = b)) then (5, m)
  else m.names ⟨3, a, b, 0⟩

def M.remove (m : M) (p : ByteArray) : Nat × M :=
  if m.off then (1, m) else if isPath p = false then (2, m) else if isAt m.things p = 0 then (4, m) else m.names ⟨4, p, ByteArray.empty, 0⟩

def M.all (m : M) (p : ByteArray) : List Nat × Nat :=
  if (m.file p).2 ≠ 0 then ([], (m.file p).2) else ((m.fileAt (m.file p).1).now, 0)

def M.read (m : M) (p : ByteArray) (a n : Int) : List Nat × Nat :=
  if (m.file p).2 ≠ 0 then ([], (m.file p).2)
  else if a < 0 ∨ ((m.fileAt (m.file p).1).now.length : Int) < a ∨ n < 0 ∨ ((m.fileAt (m.file p).1).now.length : Int) - a < n then ([], 6)
  else (((m.fileAt (m.file p).1).now.drop a.toNat).take n.toNat, 0)

structure Ent where
  name : ByteArray
  dir : Bool
  size : Nat

/-- the entries of a directory, in no order -/
def ents (m : M) (d : ByteArray) : List Ent :=
  m.things.filterMap fun x =>
    if d.size = 0 then (if sl x.path < x.path.size then none else some ⟨x.path, x.dir, if x.dir then 0 else lenAt m.files x.num⟩)
    else if inside x.path d then some ⟨x.path.extract (d.size + 1) x.path.size, x.dir, if x.dir then 0 else lenAt m.files x.num⟩ else none

/-- the failure of List -/
def M.listCode (m : M) (d : ByteArray) : Nat :=
  if m.off then 1 else if d.size = 0 then 0 else if isName d = false then 2 else if isAt m.things d = 1 then 3 else if isAt m.things d = 0 then 4 else 0

def M.flip (m : M) (p : ByteArray) (at' : Int) (mask : Nat) : Nat × M :=
  if (m.file p).2 ≠ 0 then ((m.file p).2, m)
  else if at' < 0 ∨ ((m.fileAt (m.file p).1).now.length : Int) ≤ at' then (6, m)
  else let s := (m.fileAt (m.file p).1).now
       let t := s.set at'.toNat (s.getD at'.toNat 0 ^^^ mask)
       (0, m.setFile (m.file p).1 ⟨t, t, []⟩)

def M.crash (m : M) (n : Int) : M := { m with await := n.toNat }

def wishAt (data : List Int) (i : Nat) : Int := if data.length = 0 then 0 else data.getD (i % data.length) 0

/-- the files' numbers, kept one after the other -/
def keepAll (fs : List FB) (nums : List Nat) (data : List Int) (zeros : Bool) : Nat → List FB
  | 0 => fs
  | k + 1 => let g := keepAll fs nums data zeros k
             let i := nums.getD k 0
             g.set i ((g.getD i ⟨[], [], []⟩).keep (wishAt data k) zeros)

end Go.Proofs.YtanbmlikfhcpoaaDoor.Disk
