/-
  The texts Base, DModel, DMap, DTurn, joined. Own text.
-/
import Derived.Test.YtmmlefbokplnnaaGreatDoorChecked
import Derived.WalkKit
import Derived.WalkLawsBesides
import Derived.WalkSpells
import Derived.Deep.QuietTactic
import Derived.BigQuiet
import Derived.IntWalk
import Derived.Deep.LoopGhost
import Derived.Deep.DeepCutAuto
import Derived.Maps.AppendAt
import Derived.Lib.Hide
import Derived.Below
import Derived.Carry
import Derived.Test.YtmmlefbokplnnaaGreatDoorJ03
import Derived.Maps.OwnSet
import Derived.Maps.RangeWalk
set_option linter.unusedVariables false
set_option linter.unusedSimpArgs false
namespace Go.Proofs.YtmmlefbokplnnaaGreatDoor.Base
open Go.RowKit Go

theorem ret_int {k : IntKind} {a b : Int} (h : a = b) : Ending.returned (.int k a) = .returned (.int k b) := by rw [h]
theorem ret_str {a b : ByteArray} (h : a = b) : Ending.returned (.string a) = .returned (.string b) := by rw [h]
theorem val_int {k : IntKind} {a b : Int} (h : a = b) : Value.int k a = Value.int k b := by rw [h]

/-- bytes as values -/
def u8s (l : List Nat) : List Value := l.map fun (b : Nat) => Value.int .u8 (b : Int)
theorem u8s_append (l m : List Nat) : u8s (l ++ m) = u8s l ++ u8s m := by simp [u8s]
theorem u8s_length (l : List Nat) : (u8s l).length = l.length := by simp [u8s]
theorem u8s_set (l : List Nat) (i y : Nat) : (u8s l).set i (.int .u8 (y : Int)) = u8s (l.set i y) := by simp [u8s, List.map_set]

/-- the bytes of a text, as numbers -/
def nums (s : ByteArray) : List Nat := s.data.toList.map UInt8.toNat
theorem nums_length (s : ByteArray) : (nums s).length = s.size := by simp [nums]
theorem nums_lt (s : ByteArray) : ∀ x ∈ nums s, x < 256 := by
  intro x hx
  simp only [nums, List.mem_map] at hx
  obtain ⟨b, _, rfl⟩ := hx
  exact b.toNat_lt
theorem nums_at (s : ByteArray) (i : Nat) (h : i < s.size) : (nums s)[i]? = some (s[i]'h).toNat := by
  unfold nums
  rw [List.getElem?_map, List.getElem?_eq_getElem (by simpa using h)]
  rfl

/-- the byte at a place of a text -/
def at8 (s : ByteArray) (i : Nat) : Nat := (nums s).getD i 0
theorem at8_eq (s : ByteArray) (i : Nat) (h : i < s.size) : at8 s i = (s[i]'h).toNat := by
  unfold at8
  rw [List.getD, nums_at s i h]
  rfl
theorem at8_lt (s : ByteArray) (i : Nat) : at8 s i < 256 := by
  by_cases h : i < s.size
  · rw [at8_eq s i h]; exact (s[i]'h).toNat_lt
  · unfold at8
    rw [List.getD, List.getElem?_eq_none (by rw [nums_length]; omega)]
    simp

/-- numbers as a text -/
def strN (l : List Nat) : ByteArray := ⟨(l.map UInt8.ofNat).toArray⟩
theorem strN_size (l : List Nat) : (strN l).size = l.length := by simp [strN, ByteArray.size]
theorem strN_nums (l : List Nat) (h : ∀ x ∈ l, x < 256) : nums (strN l) = l := by
  unfold nums strN
  simp only [List.map_map]
  have : ∀ x ∈ l, (UInt8.toNat ∘ UInt8.ofNat) x = x := by
    intro x hx
    have := h x hx
    simp only [Function.comp]
    rw [UInt8.toNat_ofNat']
    omega
  conv => rhs; rw [← List.map_id l]
  exact List.map_congr_left this
theorem nums_inj {s t : ByteArray} (h : nums s = nums t) : s = t := by
  unfold nums at h
  have h2 : s.data.toList = t.data.toList := by
    apply List.ext_getElem?
    intro i
    have h3 := congrArg (fun l => l[i]?) h
    simp only [List.getElem?_map] at h3
    cases hs : s.data.toList[i]? <;> cases ht : t.data.toList[i]? <;> simp_all
    exact UInt8.toNat_inj.1 h3
  cases s; cases t
  simp only at h2
  congr 1
  exact Array.toList_inj.1 h2
theorem nums_strN (s : ByteArray) : strN (nums s) = s := nums_inj (strN_nums _ (nums_lt s))
theorem nums_append (s t : ByteArray) : nums (s ++ t) = nums s ++ nums t := by
  unfold nums
  simp [ByteArray.data_append]
theorem nums_extract (s : ByteArray) (a b : Nat) : nums (s.extract a b) = ((nums s).drop a).take (b - a) := by
  unfold nums
  simp [ByteArray.data_extract, List.map_drop, List.map_take]
theorem strN_append (l m : List Nat) : strN (l ++ m) = strN l ++ strN m := by
  cases h : strN l ++ strN m
  have h2 : (strN l ++ strN m).data = (strN l).data ++ (strN m).data := ByteArray.data_append
  rw [h] at h2
  unfold strN at *
  simp only at h2
  congr 1
  rw [h2]
  simp
theorem strN_of (l : List Nat) : strOfNums (l.map fun (n : Nat) => (n : Int)) = strN l := by
  unfold strOfNums strN
  congr 2
  rw [List.map_map]
  rfl

theorem info8 : (Tryz.prog.info? 5).map (fun i => (i.zero, i.size, i.bytes)) = some (some (.int .u8 0), 1, 1) := by kernel_rfl

theorem conv_own {w : World} {B n : Nat} {v : Value} {l : List Nat} (h : w.ownsRow B 5 1 v n (u8s l)) :
    (convert 91 9 v).run Tryz.prog w = .ok (.string (strN l)) w := by
  rcases h.2 with ⟨rfl, h0⟩ | ⟨g, cap, cur, rfl, _, _, _⟩
  · have hl : l = [] := by
      have := h.1
      rw [u8s_length, h0] at this
      exact List.eq_nil_of_length_eq_zero (by omega)
    subst hl
    exact run_convert_bytes_nil w 91 5 Tryz.underlying91 Tryz.underlying5 0 0 9 Tryz.underlying9
  · have hlen : l.length = n := by have := h.1; rw [u8s_length] at this; omega
    rw [← strN_of]
    refine run_convert_bytes_arg w 91 5 Tryz.underlying91 Tryz.underlying5 g 0 n cap (l.map fun (n : Nat) => (n : Int)) (by simpa using hlen) ?_ 9 Tryz.underlying9
    intro i hi
    rw [Nat.zero_add, h.cellAt i (by omega)]
    simp [u8s, List.getD, hlen, hi]

theorem below_alloc (w : World) (o : Obj) : Below w.heap.size w (w.alloc o) := (Below.refl _ _).alloc (Nat.le_refl _) _
theorem below_drewN {B : Nat} {a w : World} (h : Below B a w) (n : Nat) : Below B a (w.drewN n) := ⟨h.os, h.tape, h.output, h.size, h.block⟩
theorem below_then {w a b : World} (h : Below w.heap.size w a) (k : Below a.heap.size a b) : Below w.heap.size w b := h.trans (k.mono h.size)

end Go.Proofs.YtmmlefbokplnnaaGreatDoor.Base

namespace Go.Proofs.YtmmlefbokplnnaaGreatDoor.Disk
open Go.Proofs.YtmmlefbokplnnaaGreatDoor.Base

/-- where the first slash is: the size, if there is none -/
def sl (s : ByteArray) : Nat := (nums s).findIdx (· == 47)
theorem sl_le (s : ByteArray) : sl s ≤ s.size := by
  unfold sl; rw [← nums_length]; exact List.findIdx_le_length
theorem sl_before (s : ByteArray) (i : Nat) (h : i < sl s) : at8 s i ≠ 47 := by
  have hi : i < (nums s).length := by have := sl_le s; rw [nums_length]; omega
  have := List.not_of_lt_findIdx (p := (· == 47)) (xs := nums s) h
  unfold at8
  rw [List.getD, List.getElem?_eq_getElem hi, Option.getD_some]
  simpa using this
theorem sl_at (s : ByteArray) (h : sl s < s.size) : at8 s (sl s) = 47 := by
  have hi : sl s < (nums s).length := by rw [nums_length]; omega
  have := List.findIdx_getElem (p := (· == 47)) (xs := nums s) (w := hi)
  unfold at8
  rw [List.getD, List.getElem?_eq_getElem hi, Option.getD_some]
  exact beq_iff_eq.1 this

/-- a byte of a name -/
def okByte (b : Nat) : Bool := decide (97 ≤ b ∧ b ≤ 122) || decide (48 ≤ b ∧ b ≤ 57) || b == 46 || b == 45
def isName (s : ByteArray) : Bool := decide (1 ≤ s.size ∧ s.size ≤ 32) && (nums s).all okByte
def dirOf (s : ByteArray) : ByteArray := if sl s < s.size then s.extract 0 (sl s) else ByteArray.empty
def baseOf (s : ByteArray) : ByteArray := if sl s < s.size then s.extract (sl s + 1) s.size else s
def isPath (s : ByteArray) : Bool := if sl s < s.size then isName (s.extract 0 (sl s)) && isName (s.extract (sl s + 1) s.size) else isName s

structure Thing where
  path : ByteArray
  dir : Bool
  num : Nat

/-- a names step: 1 mkdir, 2 create, 3 rename, 4 remove -/
structure NStep where
  kind : Nat
  a : ByteArray
  b : ByteArray
  num : Nat

structure M where
  things : List Thing
  safe : List Thing
  steps : List NStep
  files : List FB
  cap : Nat
  off : Bool
  await : Nat

def find (l : List Thing) (p : ByteArray) : Option Thing := l.find? fun x => x.path = p
/-- 0: no such thing, 1: a file, 2: a directory -/
def isAt (l : List Thing) (p : ByteArray) : Nat := match find l p with | none => 0 | some x => if x.dir then 2 else 1
def parent (l : List Thing) (p : ByteArray) : Bool := if sl p < p.size then isAt l (p.extract 0 (sl p)) == 2 else true
/-- the path lies in that directory -/
def inside (p d : ByteArray) : Bool := decide (d.size < p.size) && decide (p.extract 0 d.size = d) && (at8 p d.size == 47)

/-- a thing behind a names step -/
def moved (s : NStep) (x : Thing) : Option Thing :=
  if s.kind = 4 then (if x.path = s.a ∨ inside x.path s.a = true then none else some x)
  else if s.kind = 3 then
    (if x.path = s.b then none else if x.path = s.a then some { x with path := s.b } else if inside x.path s.a then some { x with path := s.b ++ x.path.extract s.a.size x.path.size } else some x)
  else some x
def born (s : NStep) : List Thing :=
  if s.kind = 1 then [⟨s.a, true, 0⟩] else if s.kind = 2 then [⟨s.a, false, s.num⟩] else []
def applied (l : List Thing) (s : NStep) : List Thing := l.filterMap (moved s) ++ born s
def appliedAll (l : List Thing) (ss : List NStep) : List Thing := ss.foldl applied l

/-- a step is taken; or the power goes off -/
def M.tick (m : M) : Bool := m.await == 1
def M.ticked (m : M) : M := if m.await = 1 then { m with await := 0, off := true } else { m with await := m.await - 1 }

def M.names (m : M) (s : NStep) : Nat × M :=
  if m.await = 1 then (1, m.ticked) else (0, { m.ticked with things := applied m.things s, steps := m.steps ++ [s] })

/-- Used -/
def lenAt (fs : List FB) (i : Nat) : Nat := match fs[i]? with | some f => f.now.length | none => 0
def usedBy (fs : List FB) (l : List Thing) : Nat := (l.map fun x => if x.dir then 0 else lenAt fs x.num).sum
def M.used (m : M) : Nat := if m.off then 0 else usedBy m.files m.things

def M.mkdir (m : M) (d : ByteArray) : Nat × M :=
  if m.off then (1, m) else if isName d = false then (2, m) else if isAt m.things d ≠ 0 then (5, m) else m.names ⟨1, d, ByteArray.empty, 0⟩

def M.create (m : M) (p : ByteArray) : Nat × M :=
  if m.off then (1, m) else if isPath p = false then (2, m) else if parent m.things p = false then (4, m) else if isAt m.things p ≠ 0 then (5, m)
  else if m.await = 1 then (1, m.ticked) else (0, { (m.names ⟨2, p, ByteArray.empty, m.files.length⟩).2 with files := m.files ++ [⟨[], [], []⟩] })

/-- the number of a file's bytes, or the failure -/
def M.file (m : M) (p : ByteArray) : Nat × Nat :=
  if m.off then (0, 1) else if isPath p = false then (0, 2) else match find m.things p with | none => (0, 4) | some x => if x.dir then (0, 3) else (x.num, 0)

def M.setFile (m : M) (i : Nat) (f : FB) : M := { m with files := m.files.set i f }
def M.fileAt (m : M) (i : Nat) : FB := m.files.getD i ⟨[], [], []⟩

def M.append (m : M) (p : ByteArray) (t : List Nat) : Nat × M :=
  if (m.file p).2 ≠ 0 then ((m.file p).2, m)
  else if m.cap < m.used + t.length then (7, m)
  else if m.await = 1 then (1, m.ticked)
  else (0, m.ticked.setFile (m.file p).1 ⟨(m.fileAt (m.file p).1).now ++ t, (m.fileAt (m.file p).1).safe, (m.fileAt (m.file p).1).steps ++ [⟨t, false, 0⟩]⟩)

def M.cut (m : M) (p : ByteArray) (n : Int) : Nat × M :=
  if (m.file p).2 ≠ 0 then ((m.file p).2, m)
  else if n < 0 ∨ ((m.fileAt (m.file p).1).now.length : Int) < n then (6, m)
  else if m.await = 1 then (1, m.ticked)
  else (0, m.ticked.setFile (m.file p).1 ⟨(m.fileAt (m.file p).1).now.take n.toNat, (m.fileAt (m.file p).1).safe, (m.fileAt (m.file p).1).steps ++ [⟨[], true, n.toNat⟩]⟩)

def M.sync (m : M) (p : ByteArray) : Nat × M :=
  if (m.file p).2 ≠ 0 then ((m.file p).2, m)
  else if m.await = 1 then (1, m.ticked)
  else (0, m.ticked.setFile (m.file p).1 ⟨(m.fileAt (m.file p).1).now, (m.fileAt (m.file p).1).now, []⟩)

def M.syncNames (m : M) : Nat × M :=
  if m.off then (1, m) else if m.await = 1 then (1, m.ticked) else (0, { m.ticked with safe := m.things, steps := [] })

def M.rename (m : M) (a b : ByteArray) : Nat × M :=
  if m.off then (1, m) else if (isPath a && isPath b) = false then (2, m) else if isAt m.things a = 2 ∧ isName b = false then (2, m)
  else if isAt m.things a = 0 ∨ parent m.things b = false then (4, m)
  else if isAt m.things b = 2 ∨ (isAt m.things b = 1 ∧ (isAt m.things a = 2 ∨ a = b)) then (5, m)
  else m.names ⟨3, a, b, 0⟩

def M.remove (m : M) (p : ByteArray) : Nat × M :=
  if m.off then (1, m) else if isPath p = false then (2, m) else if isAt m.things p = 0 then (4, m) else m.names ⟨4, p, ByteArray.empty, 0⟩

def M.all (m : M) (p : ByteArray) : List Nat × Nat :=
  if (m.file p).2 ≠ 0 then ([], (m.file p).2) else ((m.fileAt (m.file p).1).now, 0)

def M.read (m : M) (p : ByteArray) (a n : Int) : List Nat × Nat :=
  if (m.file p).2 ≠ 0 then ([], (m.file p).2)
  else if a < 0 ∨ ((m.fileAt (m.file p).1).now.length : Int) < a ∨ n < 0 ∨ ((m.fileAt (m.file p).1).now.length : Int) - a < n then ([], 6)
  else (((m.fileAt (m.file p).1).now.drop a.toNat).take n.toNat, 0)

structure Ent where
  name : ByteArray
  dir : Bool
  size : Nat

/-- the entries of a directory, in no order -/
def ents (m : M) (d : ByteArray) : List Ent :=
  m.things.filterMap fun x =>
    if d.size = 0 then (if sl x.path < x.path.size then none else some ⟨x.path, x.dir, if x.dir then 0 else lenAt m.files x.num⟩)
    else if inside x.path d then some ⟨x.path.extract (d.size + 1) x.path.size, x.dir, if x.dir then 0 else lenAt m.files x.num⟩ else none

/-- the failure of List -/
def M.listCode (m : M) (d : ByteArray) : Nat :=
  if m.off then 1 else if d.size = 0 then 0 else if isName d = false then 2 else if isAt m.things d = 1 then 3 else if isAt m.things d = 0 then 4 else 0

def M.flip (m : M) (p : ByteArray) (at' : Int) (mask : Nat) : Nat × M :=
  if (m.file p).2 ≠ 0 then ((m.file p).2, m)
  else if at' < 0 ∨ ((m.fileAt (m.file p).1).now.length : Int) ≤ at' then (6, m)
  else let s := (m.fileAt (m.file p).1).now
       let t := s.set at'.toNat (s.getD at'.toNat 0 ^^^ mask)
       (0, m.setFile (m.file p).1 ⟨t, t, []⟩)

def M.crash (m : M) (n : Int) : M := { m with await := n.toNat }

def wishAt (data : List Int) (i : Nat) : Int := if data.length = 0 then 0 else data.getD (i % data.length) 0

/-- the files' numbers, kept one after the other -/
def keepAll (fs : List FB) (nums : List Nat) (data : List Int) (zeros : Bool) : Nat → List FB
  | 0 => fs
  | k + 1 => let g := keepAll fs nums data zeros k
             let i := nums.getD k 0
             g.set i ((g.getD i ⟨[], [], []⟩).keep (wishAt data k) zeros)

end Go.Proofs.YtmmlefbokplnnaaGreatDoor.Disk

namespace Go.Proofs.YtmmlefbokplnnaaGreatDoor.Map
open Go.RowKit Go Go.MapKept
open Go.ChangeMaps (setBlock heap_setBlock_same heap_setBlock_other)

variable {α : Type}

def get (l : List (ByteArray × α)) (k : ByteArray) : Option α :=
  match l with
  | [] => none
  | p :: r => if p.1 = k then some p.2 else get r k

def put (l : List (ByteArray × α)) (k : ByteArray) (v : α) : List (ByteArray × α) :=
  match l with
  | [] => [(k, v)]
  | p :: r => if p.1 = k then (k, v) :: r else p :: put r k v

def del (l : List (ByteArray × α)) (k : ByteArray) : List (ByteArray × α) := l.filter fun p => decide (p.1 ≠ k)

def keys (l : List (ByteArray × α)) : List ByteArray := l.map (·.1)

theorem get_none {l : List (ByteArray × α)} {k : ByteArray} : get l k = none ↔ k ∉ keys l := by
  induction l with
  | nil => simp [get, keys]
  | cons p r ih =>
    unfold get keys
    by_cases h : p.1 = k
    · simp [h]
    · rw [if_neg h, ih]
      simp only [keys, List.map_cons, List.mem_cons, not_or]
      exact ⟨fun h' => ⟨fun e => h e.symm, h'⟩, fun h' => h'.2⟩

theorem get_some {l : List (ByteArray × α)} (hn : (keys l).Nodup) {k : ByteArray} {v : α} : get l k = some v ↔ (k, v) ∈ l := by
  induction l with
  | nil => simp [get]
  | cons p r ih =>
    have hn' : p.1 ∉ keys r ∧ (keys r).Nodup := List.nodup_cons.1 hn
    unfold get
    by_cases h : p.1 = k
    · rw [if_pos h]
      constructor
      · intro e
        injection e with e
        rw [List.mem_cons]
        left
        rw [← h, ← e]
      · intro hm
        rcases List.mem_cons.1 hm with e | hm
        · rw [← e]
        · exact absurd (List.mem_map.2 ⟨_, hm, rfl⟩) (h ▸ hn'.1)
    · rw [if_neg h, ih hn'.2, List.mem_cons]
      exact ⟨.inr, fun h' => h'.resolve_left fun e => h (by rw [← e])⟩

theorem keys_put_new {l : List (ByteArray × α)} {k : ByteArray} {v : α} (h : k ∉ keys l) : put l k v = l ++ [(k, v)] := by
  induction l with
  | nil => rfl
  | cons p r ih =>
    simp only [keys, List.map_cons, List.mem_cons, not_or] at h
    unfold put
    rw [if_neg (fun e => h.1 e.symm), ih h.2, List.cons_append]

theorem keys_put_old {l : List (ByteArray × α)} {k : ByteArray} {v : α} (h : k ∈ keys l) : keys (put l k v) = keys l := by
  induction l with
  | nil => simp [keys] at h
  | cons p r ih =>
    unfold put
    by_cases hp : p.1 = k
    · rw [if_pos hp]; simp [keys, hp]
    · rw [if_neg hp]
      simp only [keys, List.map_cons, List.mem_cons] at h
      have := ih (h.resolve_left fun e => hp e.symm)
      simp only [keys, List.map_cons] at this ⊢
      rw [this]

theorem put_nodup {l : List (ByteArray × α)} (hn : (keys l).Nodup) (k : ByteArray) (v : α) : (keys (put l k v)).Nodup := by
  by_cases h : k ∈ keys l
  · rw [keys_put_old h]; exact hn
  · rw [keys_put_new h]
    simp only [keys, List.map_append, List.map_cons, List.map_nil] at h ⊢
    rw [List.nodup_append]
    exact ⟨hn, by simp, fun a ha b hb e => by simp at hb; subst hb; subst e; exact h ha⟩

theorem del_nodup {l : List (ByteArray × α)} (hn : (keys l).Nodup) (k : ByteArray) : (keys (del l k)).Nodup := by
  unfold keys del
  exact hn.sublist ((List.filter_sublist).map _)

theorem get_put (l : List (ByteArray × α)) (k j : ByteArray) (v : α) : get (put l k v) j = if k = j then some v else get l j := by
  induction l with
  | nil => simp [put, get]
  | cons p r ih =>
    unfold put
    by_cases hp : p.1 = k
    · rw [if_pos hp]
      by_cases hk : k = j
      · simp [get, hk]
      · rw [if_neg hk, get, if_neg hk, get, if_neg (by rw [hp]; exact hk)]
    · rw [if_neg hp]
      by_cases hj : p.1 = j
      · rw [get, if_pos hj, get, if_pos hj, if_neg (fun e => hp (by rw [hj, e]))]
      · rw [get, if_neg hj, ih, get, if_neg hj]

theorem get_del (l : List (ByteArray × α)) (k j : ByteArray) : get (del l k) j = if k = j then none else get l j := by
  induction l with
  | nil => simp [del, get]
  | cons p r ih =>
    unfold del at ih ⊢
    by_cases hp : p.1 = k
    · rw [List.filter_cons_of_neg (by simp [hp]), ih]
      by_cases hk : k = j
      · rw [if_pos hk, if_pos hk]
      · rw [if_neg hk, if_neg hk, get, if_neg (by rw [hp]; exact hk)]
    · rw [List.filter_cons_of_pos (by simpa using hp)]
      by_cases hj : p.1 = j
      · rw [get, if_pos hj, get, if_pos hj, if_neg (fun e => hp (by rw [hj, e]))]
      · rw [get, if_neg hj, ih, get, if_neg hj]

theorem map_eraseIdx' {α β : Type} (f : α → β) (l : List α) (i : Nat) : (l.eraseIdx i).map f = (l.map f).eraseIdx i := by
  induction l generalizing i with
  | nil => simp
  | cons x r ih => cases i <;> simp [ih]

/-! ### in memory -/

def enc (l : List (ByteArray × Value)) : List (Value × Value) := l.map fun p => (.string p.1, p.2)
def raw (es : List MapEntry) : List (Value × Value) := es.map fun e => (e.key, e.val)

/-- a map in memory -/
def MapIs (w : World) (b : Nat) (l : List (ByteArray × Value)) : Prop :=
  ∃ es clock, w.heap[b]? = some (.map es clock) ∧ Stamped es clock ∧ raw es.toList = enc l

theorem MapIs.lt {w : World} {b : Nat} {l : List (ByteArray × Value)} (h : MapIs w b l) : b < w.heap.size := by
  obtain ⟨es, clock, hb, _⟩ := h
  exact (Array.getElem?_eq_some_iff.1 hb).1

theorem MapIs.of_block {w w' : World} {b : Nat} {l : List (ByteArray × Value)} (h : MapIs w b l) (hb : w'.heap[b]? = w.heap[b]?) : MapIs w' b l := by
  obtain ⟨es, clock, h1, h2⟩ := h
  exact ⟨es, clock, hb.trans h1, h2⟩

theorem mapIs_new (w : World) : MapIs (w.alloc (.map #[] 0)) w.heap.size [] := ⟨#[], 0, heap_alloc_new w _, stamped_empty 0, rfl⟩

theorem keys_raw {es : List MapEntry} {l : List (ByteArray × Value)} (h : raw es = enc l) : es.map (·.key) = (keys l).map Value.string := by
  have := congrArg (List.map Prod.fst) h
  simpa [raw, enc, keys, Function.comp_def] using this

theorem nodup_of {es : List MapEntry} {l : List (ByteArray × Value)} (h : raw es = enc l) (hp : es.Pairwise fun x y => x.key ≠ y.key) : (keys l).Nodup := by
  have h1 : (es.map (·.key)).Pairwise (· ≠ ·) := by rw [List.pairwise_map]; exact hp
  rw [keys_raw h] at h1
  rw [List.pairwise_map] at h1
  exact h1.imp fun h e => h (by rw [e])

theorem MapIs.nodup {w : World} {b : Nat} {l : List (ByteArray × Value)} (h : MapIs w b l) : (keys l).Nodup := by
  obtain ⟨es, clock, _, hs, hr⟩ := h
  exact nodup_of hr ((stamped_iff es clock).1 hs).2.2

theorem keys_are {es : List MapEntry} {l : List (ByteArray × Value)} (h : raw es = enc l) : ∀ x ∈ es, IsKey .string x.key := by
  intro x hx
  have : x.key ∈ es.map (·.key) := List.mem_map.2 ⟨x, hx, rfl⟩
  rw [keys_raw h] at this
  obtain ⟨k, _, hk⟩ := List.mem_map.1 this
  rw [← hk]
  trivial

/-- where a key is found -/
theorem found {es : List MapEntry} {l : List (ByteArray × Value)} (h : raw es = enc l) (k : ByteArray) :
    (Instr.findNow .string (.string k) es 0 = some none ∧ get l k = none) ∨ ∃ j e, Instr.findNow .string (.string k) es 0 = some (some (j, e.val)) ∧ es[j]? = some e ∧ e.key = .string k ∧ l[j]? = some (k, e.val) := by
  rcases findNow_spec (d := .string) (k := .string k) trivial es 0 (keys_are h) with ⟨h1, h2⟩ | ⟨j, e, h1, h2, h3⟩
  · refine .inl ⟨h1, get_none.2 fun hk => ?_⟩
    have hm : Value.string k ∈ es.map (·.key) := by rw [keys_raw h]; exact List.mem_map.2 ⟨k, hk, rfl⟩
    obtain ⟨x, hx, hx2⟩ := List.mem_map.1 hm
    exact h2 x hx hx2
  · refine .inr ⟨j, e, by simpa using h1, h2, h3, ?_⟩
    have h4 := congrArg (fun l => l[j]?) h
    simp only [raw, enc, List.getElem?_map, h2, Option.map_some] at h4
    cases hj : l[j]? with
    | none => rw [hj] at h4; cases h4
    | some p =>
      rw [hj] at h4
      simp only [Option.map_some, Option.some.injEq, Prod.mk.injEq, h3, Value.string.injEq] at h4
      rw [h4.1, h4.2]

section
variable {P : Program} {w : World} {b : Nat} {l : List (ByteArray × Value)} {T K E : TypeId}

theorem MapIs.lookup (h : MapIs w b l) (hT : P.underlying T = some (.map K E)) (hK : P.underlying K = some .string) {z : Value} (hz : ∀ w, (zeroValue E).run P w = .ok z w) (k : ByteArray) :
    (Instr.lookup T (.map (some b)) (.string k) false).run P w = .ok ((get l k).getD z) w := by
  have hn := h.nodup
  obtain ⟨es, clock, hb, hs, hr⟩ := h
  have hk : IsKey .string (.string k) := trivial
  rcases found hr k with ⟨h1, h2⟩ | ⟨j, e, h1, h2, h3, h4⟩
  · simp [Instr.lookup, run_underlying hT, MapKept.run_getObj_map hb, run_checkKey hK hk, run_findKey hK h1, hz, h2, Result.andThen]
  · have : get l k = some e.val := (get_some hn).2 (List.mem_of_getElem? h4)
    simp [Instr.lookup, run_underlying hT, MapKept.run_getObj_map hb, run_checkKey hK hk, run_findKey hK h1, this, Result.andThen]

theorem lookup_nil (hT : P.underlying T = some (.map K E)) (hK : P.underlying K = some .string) {z : Value} (hz : ∀ w, (zeroValue E).run P w = .ok z w) (k : ByteArray) (w : World) :
    (Instr.lookup T (.map none) (.string k) false).run P w = .ok z w := by
  have hk : IsKey .string (.string k) := trivial
  have h1 : Instr.findNow .string (.string k) [] 0 = some none := rfl
  simp [Instr.lookup, run_underlying hT, run_checkKey hK hk, run_findKey hK h1, hz, Result.andThen]

theorem put_at {l : List (ByteArray × Value)} (hn : (keys l).Nodup) {j : Nat} {k : ByteArray} {u v : Value} (h : l[j]? = some (k, u)) : put l k v = l.set j (k, v) := by
  induction l generalizing j with
  | nil => simp at h
  | cons p r ih =>
    have hn' : p.1 ∉ keys r ∧ (keys r).Nodup := List.nodup_cons.1 hn
    cases j with
    | zero =>
      simp only [List.getElem?_cons_zero, Option.some.injEq] at h
      unfold put
      rw [if_pos (by rw [h]), List.set_cons_zero]
    | succ j =>
      simp only [List.getElem?_cons_succ] at h
      have : p.1 ≠ k := fun e => hn'.1 (by rw [e]; exact List.mem_map.2 ⟨_, List.mem_of_getElem? h, rfl⟩)
      unfold put
      rw [if_neg this, List.set_cons_succ, ih hn'.2 h]

theorem del_at {l : List (ByteArray × Value)} (hn : (keys l).Nodup) {j : Nat} {k : ByteArray} {u : Value} (h : l[j]? = some (k, u)) : del l k = l.eraseIdx j := by
  induction l generalizing j with
  | nil => simp at h
  | cons p r ih =>
    have hn' : p.1 ∉ keys r ∧ (keys r).Nodup := List.nodup_cons.1 hn
    cases j with
    | zero =>
      simp only [List.getElem?_cons_zero, Option.some.injEq] at h
      unfold del
      rw [List.filter_cons_of_neg (by simp [h]), List.eraseIdx_cons_zero]
      rw [List.filter_eq_self]
      intro q hq
      have : q.1 ≠ k := fun e => hn'.1 (by rw [h, ← e]; exact List.mem_map.2 ⟨_, hq, rfl⟩)
      simpa using this
    | succ j =>
      simp only [List.getElem?_cons_succ] at h
      have : p.1 ≠ k := fun e => hn'.1 (by rw [e]; exact List.mem_map.2 ⟨_, List.mem_of_getElem? h, rfl⟩)
      have ih := ih hn'.2 h
      unfold del at ih ⊢
      rw [List.filter_cons_of_pos (by simpa using this), List.eraseIdx_cons_succ, ih]

theorem del_none {l : List (ByteArray × Value)} {k : ByteArray} (h : get l k = none) : del l k = l := by
  unfold del
  rw [List.filter_eq_self]
  intro q hq
  have : q.1 ≠ k := fun e => get_none.1 h (by rw [← e]; exact List.mem_map.2 ⟨_, hq, rfl⟩)
  simpa using this

theorem grown_setBlock {es : Array MapEntry} {clock : Nat} (hb : w.heap[b]? = some (.map es clock)) (o : Obj) : w.grownBy (setBlock w b o) (some b) :=
  ⟨rfl, rfl, rfl, by simp [setBlock], fun i _ hi => heap_setBlock_other hb _ (fun e => hi (by rw [e]))⟩

theorem MapIs.update (h : MapIs w b l) (hT : P.underlying T = some (.map K E)) (hK : P.underlying K = some .string) (k : ByteArray) (v : Value) :
    ∃ w', (Instr.mapUpdate T (.map (some b)) (.string k) v).run P w = .ok () w' ∧ MapIs w' b (put l k v) ∧ w.grownBy w' (some b) ∧ w'.heap.size = w.heap.size := by
  have hn := h.nodup
  obtain ⟨es, clock, hb, hs, hr⟩ := h
  have hk : IsKey .string (.string k) := trivial
  rcases found hr k with ⟨h1, h2⟩ | ⟨j, e, h1, h2, h3, h4⟩
  · refine ⟨setBlock w b (.map (es.push { key := .string k, val := v, born := clock }) (clock + 1)), ?_, ⟨_, _, heap_setBlock_same hb _, ?_, ?_⟩, grown_setBlock hb _, by simp [setBlock]⟩
    · simp [Instr.mapUpdate, run_underlying hT, MapKept.run_getObj_map hb, run_checkKey hK hk, run_findKey hK h1, MapKept.run_setObj_map _ hb, setBlock, Result.andThen]
    · refine stamped_push hs fun x hx e => ?_
      have : Value.string k ∈ es.toList.map (·.key) := List.mem_map.2 ⟨x, hx, e⟩
      rw [keys_raw hr] at this
      obtain ⟨k', hk', e'⟩ := List.mem_map.1 this
      injection e' with e'
      subst e'
      exact get_none.1 h2 hk'
    · rw [keys_put_new (get_none.1 h2)]
      unfold raw enc at *
      simp [hr]
  · have hj : es[j]? = some e := by simpa using h2
    refine ⟨setBlock w b (.map (es.modify j fun e => { e with key := .string k, val := v }) clock), ?_, ⟨_, _, heap_setBlock_same hb _, ?_, ?_⟩, grown_setBlock hb _, by simp [setBlock]⟩
    · simp [Instr.mapUpdate, run_underlying hT, MapKept.run_getObj_map hb, run_checkKey hK hk, run_findKey hK h1, hj, h3, run_keyThatStays hk, MapKept.run_setObj_map _ hb, setBlock, Result.andThen]
    · refine stamped_modify hs _ _ (fun _ _ => rfl) fun e' _ he' => ?_
      have he' : es[j]? = some e' := he'
      rw [hj] at he'
      cases he'
      exact h3.symm
    · rw [put_at hn h4]
      unfold raw enc at *
      rw [Array.toList_modify, List.map_set, ← hr]
      apply List.ext_getElem?
      intro i
      simp only [List.getElem?_map, List.getElem?_modify, List.getElem?_set, List.length_map]
      by_cases hij : j = i
      · subst hij
        have hlt : j < es.toList.length := by
          rcases Nat.lt_or_ge j es.toList.length with h' | h'
          · exact h'
          · rw [List.getElem?_eq_none h'] at h2; cases h2
        simp only [Array.length_toList] at hlt
        simp [hlt]
      · simp [hij]

theorem MapIs.delete (h : MapIs w b l) (hT : P.underlying T = some (.map K E)) (hK : P.underlying K = some .string) (ty kt : TypeId) (k : ByteArray) :
    ∃ w', (Builtin.delete_ #[T, kt] ty #[.map (some b), .string k]).run P w = .ok (.tuple #[]) w' ∧ MapIs w' b (del l k) ∧ w.grownBy w' (some b) ∧ w'.heap.size = w.heap.size := by
  have hn := h.nodup
  obtain ⟨es, clock, hb, hs, hr⟩ := h
  have hk : IsKey .string (.string k) := trivial
  rcases found hr k with ⟨h1, h2⟩ | ⟨j, e, h1, h2, h3, h4⟩
  · refine ⟨setBlock w b (.map es clock), ?_, ⟨_, _, heap_setBlock_same hb _, hs, ?_⟩, grown_setBlock hb _, by simp [setBlock]⟩
    · simp [Builtin.delete_, run_underlying hT, MapKept.run_getObj_map hb, run_checkKey hK hk, run_findKey hK h1, MapKept.run_setObj_map _ hb, setBlock, Result.andThen]
    · rw [del_none h2, hr]
  · refine ⟨setBlock w b (.map (es.eraseIdxIfInBounds j) clock), ?_, ⟨_, _, heap_setBlock_same hb _, stamped_erase hs _, ?_⟩, grown_setBlock hb _, by simp [setBlock]⟩
    · simp [Builtin.delete_, run_underlying hT, MapKept.run_getObj_map hb, run_checkKey hK hk, run_findKey hK h1, MapKept.run_setObj_map _ hb, setBlock, Result.andThen]
    · rw [del_at hn h4]
      unfold raw enc at *
      have hlt : j < es.size := by
        rcases Nat.lt_or_ge j es.size with h' | h'
        · exact h'
        · rw [List.getElem?_eq_none (by simpa using h')] at h2; cases h2
      have : (es.eraseIdxIfInBounds j).toList = es.toList.eraseIdx j := by
        unfold Array.eraseIdxIfInBounds
        rw [dif_pos hlt]
        simp
      rw [this, map_eraseIdx', map_eraseIdx', hr]

theorem delete_nil (hT : P.underlying T = some (.map K E)) (hK : P.underlying K = some .string) (ty kt : TypeId) (k : ByteArray) (w : World) :
    (Builtin.delete_ #[T, kt] ty #[.map none, .string k]).run P w = .ok (.tuple #[]) w := by
  have hk : IsKey .string (.string k) := trivial
  simp [Builtin.delete_, run_underlying hT, run_checkKey hK hk, Result.andThen]

/-! ### going through a map -/

def RangeIs (w : World) (b r : Nat) (done todo : List (ByteArray × Value)) : Prop :=
  ∃ es clock seen c0, w.heap[b]? = some (.map es clock) ∧ Stamped es clock ∧ w.heap[r]? = some (.mapIter (some b) clock seen c0) ∧ clock ≤ c0 ∧
    ∃ de te : List MapEntry, (de ++ te).Perm es.toList ∧ seen.toList = de.map (·.born) ∧ raw de = enc done ∧ raw te = enc todo

theorem RangeIs.lt {r : Nat} {done todo : List (ByteArray × Value)} (h : RangeIs w b r done todo) : b < w.heap.size ∧ r < w.heap.size ∧ b ≠ r := by
  obtain ⟨es, clock, seen, c0, hb, _, hr, _⟩ := h
  refine ⟨(Array.getElem?_eq_some_iff.1 hb).1, (Array.getElem?_eq_some_iff.1 hr).1, fun e => ?_⟩
  subst e
  rw [hb] at hr
  cases hr

theorem RangeIs.kept {w' : World} {r : Nat} {done todo : List (ByteArray × Value)} (h : RangeIs w b r done todo) (h1 : w'.heap[b]? = w.heap[b]?) (h2 : w'.heap[r]? = w.heap[r]?) : RangeIs w' b r done todo := by
  obtain ⟨es, clock, seen, c0, hb, hs, hr, hc, rest⟩ := h
  exact ⟨es, clock, seen, c0, h1.trans hb, hs, h2.trans hr, hc, rest⟩

theorem MapIs.range (h : MapIs w b l) (hT : P.underlying T = some (.map K E)) :
    ∃ w', (Instr.range T (.map (some b))).run P w = .ok (.pointer (some ⟨w.heap.size, 0, none⟩)) w' ∧ RangeIs w' b w.heap.size [] l ∧ w.grownBy w' none ∧ w'.heap.size = w.heap.size + 1 := by
  have hlt := h.lt
  obtain ⟨es, clock, hb, hs, hr⟩ := h
  refine ⟨_, run_range_map w T K E b es clock hT hb, ⟨es, clock, #[], clock, ?_, hs, heap_alloc_new w _, Nat.le_refl _, [], es.toList, List.Perm.refl _, rfl, rfl, hr⟩, World.grownBy_alloc w _ none, by simp⟩
  rw [heap_alloc_old w _ hlt]
  exact hb

theorem RangeIs.next {r : Nat} {done todo : List (ByteArray × Value)} (h : RangeIs w b r done todo) (ty : TypeId) :
    (todo = [] ∧ (Instr.next (.pointer (some ⟨r, 0, none⟩)) false ty).run P w = .ok (.tuple #[.bool false]) w) ∨
    ∃ k v t1 t2 w', todo = t1 ++ (k, v) :: t2 ∧ (Instr.next (.pointer (some ⟨r, 0, none⟩)) false ty).run P w = .ok (.tuple #[.bool true, .string k, v]) w' ∧ RangeIs w' b r (done ++ [(k, v)]) (t1 ++ t2) ∧ w.grownBy w' (some r) ∧ w'.heap.size = w.heap.size ∧
      (Instr.entry (.pointer (some ⟨r, 0, none⟩))).run P w' = .ok (.tuple #[.string k, v]) w' := by
  obtain ⟨hbl, hrl, hbr⟩ := h.lt
  obtain ⟨es, clock, seen, c0, hb, hs, hr, hc, de, te, hp, hseen, hd, ht⟩ := h
  have hst := (stamped_iff es clock).1 hs
  have hnd : ((de ++ te).map (·.born)).Nodup := (hp.map _).nodup_iff.2 hst.2.1
  have hmem : ∀ e, e ∈ (leftOf es seen).toList ↔ e ∈ te := by
    intro e
    constructor
    · intro he
      obtain ⟨h1, h2⟩ := mem_left he
      have : e ∈ de ++ te := hp.mem_iff.2 h1
      rcases List.mem_append.1 this with h3 | h3
      · exfalso
        have : e.born ∈ seen.toList := by rw [hseen]; exact List.mem_map.2 ⟨e, h3, rfl⟩
        have h4 : seen.contains e.born = true := Array.contains_iff_mem.2 (Array.mem_toList_iff.1 this)
        rw [h4] at h2; cases h2
      · exact h3
    · intro he
      have h1 : e ∈ es.toList := hp.mem_iff.1 (List.mem_append_right _ he)
      unfold leftOf
      rw [Array.mem_toList_iff, Array.mem_filter]
      refine ⟨Array.mem_toList_iff.1 h1, ?_⟩
      cases hcon : seen.contains e.born with
      | false => rfl
      | true =>
        exfalso
        have h2 : e.born ∈ seen.toList := Array.mem_toList_iff.2 (Array.contains_iff_mem.1 hcon)
        rw [hseen] at h2
        obtain ⟨e', he', hb'⟩ := List.mem_map.1 h2
        rw [List.map_append, List.nodup_append] at hnd
        exact hnd.2.2 _ (List.mem_map.2 ⟨e', he', rfl⟩) _ (List.mem_map.2 ⟨e, he, rfl⟩) hb'
  rcases run_next_at (P := P) w ty r b clock c0 seen es clock hr hb hst.1 hc with ⟨h0, hrun⟩ | ⟨e, he, w1, hw1, hrun⟩
  · refine .inl ⟨?_, hrun⟩
    have : te = [] := by
      cases te with
      | nil => rfl
      | cons e r' =>
        have h1 := (hmem e).2 (by simp)
        have h2 : (leftOf es seen).toList.length = 0 := by simpa using h0
        rw [List.length_eq_zero_iff] at h2
        rw [h2] at h1
        cases h1
    rw [this] at ht
    cases todo with
    | nil => rfl
    | cons _ _ => cases ht
  · have hte := (hmem e).1 he
    obtain ⟨s1, s2, rfl⟩ := List.append_of_mem hte
    have hlen : s1.length < todo.length := by
      have := congrArg List.length ht
      simp [raw, enc] at this
      omega
    obtain ⟨p, hp'⟩ : ∃ p, todo[s1.length]? = some p := ⟨_, List.getElem?_eq_getElem hlen⟩
    have hsplit : todo = todo.take s1.length ++ p :: todo.drop (s1.length + 1) := by
      rw [List.getElem?_eq_getElem hlen] at hp'
      injection hp' with hp'
      rw [← hp']
      simp
    have h1 : e.key = .string p.1 ∧ e.val = p.2 := by
      have h4 := congrArg (fun l => l[s1.length]?) ht
      simp [raw, enc, hp'] at h4
      exact h4
    have hraw : raw s1 = enc (todo.take s1.length) ∧ raw s2 = enc (todo.drop (s1.length + 1)) := by
      have h5 := congrArg (List.take s1.length) ht
      have h6 := congrArg (List.drop (s1.length + 1)) ht
      unfold raw enc at *
      rw [List.map_append, List.take_append_of_le_length (by simp), List.take_of_length_le (by simp)] at h5
      rw [List.map_append, List.drop_append, List.drop_of_length_le (by simp)] at h6
      simp at h6
      refine ⟨by rw [h5, List.map_take], by rw [h6, List.map_drop]⟩
    have hheap : w1.heap = w.heap := by rcases hw1 with rfl | rfl <;> rfl
    have hsz : (setBlock w1 r (.mapIter (some b) clock (seen.push e.born) clock)).heap.size = w.heap.size := by simp [setBlock, hheap]
    have hr1 : (setBlock w1 r (.mapIter (some b) clock (seen.push e.born) clock)).heap[r]? = some (.mapIter (some b) clock (seen.push e.born) clock) := by
      simp [setBlock, hheap, hrl]
    have hoth : ∀ i, i ≠ r → (setBlock w1 r (.mapIter (some b) clock (seen.push e.born) clock)).heap[i]? = w.heap[i]? := by
      intro i hi
      simp only [setBlock, hheap]
      rw [Array.getElem?_setIfInBounds_ne (fun e => hi e.symm)]
    have hb1 : (setBlock w1 r (.mapIter (some b) clock (seen.push e.born) clock)).heap[b]? = some (.map es clock) := by rw [hoth b hbr]; exact hb
    refine .inr ⟨p.1, p.2, todo.take s1.length, todo.drop (s1.length + 1), _, hsplit, ?_, ⟨es, clock, seen.push e.born, clock, hb1, hs, hr1, Nat.le_refl _, de ++ [e], s1 ++ s2, ?_, ?_, ?_, ?_⟩, ?_, hsz, ?_⟩
    · rw [hrun, h1.1, h1.2]
    · refine List.Perm.trans ?_ hp
      rw [List.append_assoc]
      refine List.Perm.append_left _ ?_
      show (e :: (s1 ++ s2)).Perm _
      exact List.perm_middle.symm
    · rw [Array.toList_push, hseen]; simp
    · unfold raw enc at *
      simp [hd, h1.1, h1.2]
    · unfold raw enc at *
      simp [hraw.1, hraw.2]
    · refine ⟨?_, ?_, ?_, by rw [hsz]; exact Nat.le_refl _, fun i _ hi => hoth i (fun e => hi (by rw [e]))⟩
      · rcases hw1 with rfl | rfl <;> rfl
      · rcases hw1 with rfl | rfl <;> rfl
      · rcases hw1 with rfl | rfl <;> rfl
    · have := run_entry_at (P := P) _ r b clock seen es clock e hr1 hb1 (hp.mem_iff.1 (by simp)) hst.2.1
      rw [this, h1.1, h1.2]

end

/-! ### at the operation -/
section
variable {P : Program} (w : World) {ops : Array Oper} {rest : List Oper} {o : Oper} {a : Act} {Q : Exit → Act → World → Prop} {b : Nat} {l : List (ByteArray × Value)} {T K E : TypeId}

theorem wp_put (hg : o.guard = none) (m x v : Operand) (hop : o.op = Op.mapUpdate T m x v) (hT : P.underlying T = some (.map K E)) (hK : P.underlying K = some .string)
    (hm : a.eval m = .map (some b)) (h : MapIs w b l) (k : ByteArray) (val : Value) (hx : a.eval x = .string k) (hv : a.eval v = val)
    (next : ∀ w', MapIs w' b (put l k val) → w.grownBy w' (some b) → w'.heap.size = w.heap.size → wpList P ops Q rest (a.put o.dst undef) w') : wpList P ops Q (o :: rest) a w := by
  refine wpList_plain hg fun K' hK' => ?_
  obtain ⟨w', hrun, r1, r2, r3⟩ := h.update (E := E) hT hK k val
  unfold Oper.wp
  simp [execOp, hop, hm, hx, hv, hrun, Result.andThen]
  exact hK' _ _ (next w' r1 r2 r3)

theorem wp_range (hg : o.guard = none) (m : Operand) (hop : o.op = Op.range T m) (hT : P.underlying T = some (.map K E)) (hm : a.eval m = .map (some b)) (h : MapIs w b l)
    (next : ∀ w', RangeIs w' b w.heap.size [] l → w.grownBy w' none → w'.heap.size = w.heap.size + 1 → wpList P ops Q rest (a.put o.dst (.pointer (some ⟨w.heap.size, 0, none⟩))) w') : wpList P ops Q (o :: rest) a w := by
  refine wpList_plain hg fun K' hK' => ?_
  obtain ⟨w', hrun, r1, r2, r3⟩ := h.range hT
  unfold Oper.wp
  simp [execOp, hop, hm, hrun, Result.andThen]
  exact hK' _ _ (next w' r1 r2 r3)

theorem wp_next {r : Nat} {done todo : List (ByteArray × Value)} (hg : o.guard = none) (it : Operand) (hop : o.op = Op.next it false) (hit : a.eval it = .pointer (some ⟨r, 0, none⟩)) (h : RangeIs w b r done todo)
    (hDone : todo = [] → wpList P ops Q rest (a.put o.dst (.tuple #[.bool false])) w)
    (hMore : ∀ k v t1 t2 w', todo = t1 ++ (k, v) :: t2 → RangeIs w' b r (done ++ [(k, v)]) (t1 ++ t2) → w.grownBy w' (some r) → w'.heap.size = w.heap.size →
      (Instr.entry (.pointer (some ⟨r, 0, none⟩))).run P w' = .ok (.tuple #[.string k, v]) w' → wpList P ops Q rest (a.put o.dst (.tuple #[.bool true, .string k, v])) w') : wpList P ops Q (o :: rest) a w := by
  refine wpList_plain hg fun K' hK' => ?_
  unfold Oper.wp
  rcases h.next (P := P) o.type with ⟨h0, hrun⟩ | ⟨k, v, t1, t2, w', h0, hrun, r1, r2, r3, r4⟩
  · simp [execOp, hop, hit, hrun, Result.andThen]
    exact hK' _ _ (hDone h0)
  · simp [execOp, hop, hit, hrun, Result.andThen]
    exact hK' _ _ (hMore k v t1 t2 w' h0 r1 r2 r3 r4)
end
end Go.Proofs.YtmmlefbokplnnaaGreatDoor.Map

namespace Go.Proofs.YtmmlefbokplnnaaGreatDoor
open Go.RowKit Go

structure Turn (S : Nat → Prop) (w w' : World) : Prop where
  os : w'.os = w.os
  tape : w'.tape = w.tape
  output : w'.output = w.output
  size : w.heap.size ≤ w'.heap.size
  block : ∀ k, k < w.heap.size → ¬ S k → w'.heap[k]? = w.heap[k]?

namespace Turn
variable {S S' : Nat → Prop} {w w' w'' : World}

theorem refl (S : Nat → Prop) (w : World) : Turn S w w := ⟨rfl, rfl, rfl, Nat.le_refl _, fun _ _ _ => rfl⟩

theorem trans (h : Turn S w w') (k : Turn S' w' w'') (hs : ∀ i, i < w.heap.size → S' i → S i) : Turn S w w'' :=
  ⟨k.os.trans h.os, k.tape.trans h.tape, k.output.trans h.output, Nat.le_trans h.size k.size, fun i hi hn => (k.block i (Nat.lt_of_lt_of_le hi h.size) (fun h' => hn (hs i hi h'))).trans (h.block i hi hn)⟩

theorem mono (h : Turn S w w') (hs : ∀ i, i < w.heap.size → S i → S' i) : Turn S' w w' := ⟨h.os, h.tape, h.output, h.size, fun i hi hn => h.block i hi (fun h' => hn (hs i hi h'))⟩

theorem of_below (h : Below w.heap.size w w') : Turn S w w' := ⟨h.os, h.tape, h.output, h.size, fun i hi _ => h.block i hi⟩

theorem of_grown {row : Option Nat} (h : w.grownBy w' row) (hs : ∀ k, row = some k → S k) : Turn S w w' :=
  ⟨h.os, h.tape, h.output, h.size, fun i hi hn => h.block i hi (fun e => hn (hs i e.symm))⟩

theorem drew (h : Turn S w w') (n : Nat) : Turn S w (w'.drewN n) := ⟨h.os, h.tape, h.output, h.size, h.block⟩
theorem of_drew (n : Nat) : Turn S w (w.drewN n) := (refl S w).drew n

theorem alloc (h : Turn S w w') (o : Obj) : Turn S w (w'.alloc o) :=
  h.trans (of_below (Base.below_alloc w' o) : Turn S w' _) (fun _ _ h => h)

theorem set (h : Turn S w w') (p : Addr) (u : Value) (hp : p.block < w.heap.size → S p.block) : Turn S w (w'.setCell p u) :=
  ⟨h.os, h.tape, h.output, by simpa [World.setCell] using h.size, fun i hi hn => by
    rw [Below.heap_setCell _ _ _ _ (fun e => by subst e; exact hn (hp hi))]
    exact h.block i hi hn⟩

theorem cell (h : Turn S w w') {p : Addr} {v : Value} (hc : w.cell? p = some v) (hn : ¬ S p.block) : w'.cell? p = some v := by
  rw [World.cell?_of_block (w := w) (h.block p.block (World.block_lt_of_cell? w p hc) hn)]
  exact hc

theorem below (h : Turn S w w') {B : Nat} (hB : B ≤ w.heap.size) (hs : ∀ i, i < B → ¬ S i) : Below B w w' :=
  ⟨h.os, h.tape, h.output, h.size, fun i hi => h.block i (Nat.lt_of_lt_of_le hi hB) (hs i hi)⟩

end Turn
end Go.Proofs.YtmmlefbokplnnaaGreatDoor
