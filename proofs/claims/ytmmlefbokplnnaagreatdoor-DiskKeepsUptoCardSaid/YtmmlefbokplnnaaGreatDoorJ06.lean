/-
  The texts LPure, joined. Own text.
-/
import Derived.Test.YtmmlefbokplnnaaGreatDoorJ04
import Derived.Lib.Bytealg
set_option linter.unusedVariables false
set_option linter.unusedSimpArgs false
namespace Go.Proofs.YtmmlefbokplnnaaGreatDoor.Lab
open Go.RowKit Go Go.Proofs.YtmmlefbokplnnaaGreatDoor.Base

/-- a label: its name, its value -/
structure Lab where
  n : ByteArray
  v : ByteArray
deriving DecidableEq

instance : Inhabited Lab := ⟨⟨ByteArray.empty, ByteArray.empty⟩⟩

def lst (s : ByteArray) : List UInt8 := s.data.toList
theorem lst_inj {a b : ByteArray} (h : lst a = lst b) : a = b := by
  cases a; cases b
  unfold lst at h
  congr 1
  exact Array.toList_inj.1 h

def Lab.cells (x : Lab) : List Value := [.string x.n, .string x.v]
def Lab.val (x : Lab) : Value := .agg #[.string x.n, .string x.v]

/-! ### names and values -/

def letter (b : Nat) : Bool := decide (97 ≤ b ∧ b ≤ 122) || decide (65 ≤ b ∧ b ≤ 90) || decide (b = 95)
def digit (b : Nat) : Bool := decide (48 ≤ b ∧ b ≤ 57)
/-- a byte that may stand at a place of a name -/
def okc (i b : Nat) : Bool := letter b || (digit b && decide (0 < i))
def fitN (s : ByteArray) : Bool := decide (1 ≤ s.size) && decide (s.size ≤ 32) && (List.range s.size).all fun i => okc i (at8 s i)
def fitV (s : ByteArray) : Bool := decide (1 ≤ s.size) && decide (s.size ≤ 64)

inductive Chr (b : Nat) : Prop
  | low (h1 : 97 ≤ b) (h2 : b ≤ 122)
  | up (h1 : 65 ≤ b) (h2 : b ≤ 90)
  | bar (h : b = 95)
  | dig (h1 : 48 ≤ b) (h2 : b ≤ 57)
  | a0 (h : b < 48)
  | a1 (h1 : 57 < b) (h2 : b < 65)
  | a2 (h1 : 90 < b) (h2 : b < 95)
  | a3 (h1 : 95 < b) (h2 : b < 97)
  | a4 (h1 : 122 < b)
theorem chr_of (b : Nat) : Chr b := by
  by_cases h0 : b < 48; exact .a0 h0
  by_cases h1 : b ≤ 57; exact .dig (by omega) h1
  by_cases h2 : b < 65; exact .a1 (by omega) h2
  by_cases h3 : b ≤ 90; exact .up (by omega) h3
  by_cases h4 : b < 95; exact .a2 (by omega) h4
  by_cases h5 : b = 95; exact .bar h5
  by_cases h6 : b < 97; exact .a3 (by omega) h6
  by_cases h7 : b ≤ 122; exact .low (by omega) h7
  exact .a4 (by omega)

inductive Chr2 (k b : Nat) : Prop
  | low (h1 : 97 ≤ b) (h2 : b ≤ 122)
  | up (h1 : 65 ≤ b) (h2 : b ≤ 90)
  | bar (h : b = 95)
  | dig (h1 : 48 ≤ b) (h2 : b ≤ 57) (h3 : 0 < k)
  | dig0 (h1 : 48 ≤ b) (h2 : b ≤ 57) (h3 : ¬ 0 < k)
  | a0 (h : b < 48)
  | a1 (h1 : 57 < b) (h2 : b < 65)
  | a2 (h1 : 90 < b) (h2 : b < 95)
  | a3 (h1 : 95 < b) (h2 : b < 97)
  | a4 (h1 : 122 < b)
theorem Chr.two {b : Nat} (h : Chr b) (k : Nat) : Chr2 k b := by
  rcases h with ⟨c1, c2⟩ | ⟨c1, c2⟩ | ⟨h⟩ | ⟨c1, c2⟩ | ⟨c1⟩ | ⟨c1, c2⟩ | ⟨c1, c2⟩ | ⟨c1, c2⟩ | ⟨c1⟩
  · exact .low c1 c2
  · exact .up c1 c2
  · exact .bar h
  · by_cases h3 : 0 < k
    · exact .dig c1 c2 h3
    · exact .dig0 c1 c2 h3
  · exact .a0 c1
  · exact .a1 c1 c2
  · exact .a2 c1 c2
  · exact .a3 c1 c2
  · exact .a4 c1

theorem fitN_bad {s : ByteArray} {i : Nat} (hi : i < s.size) (h : okc i (at8 s i) = false) : fitN s = false := by
  cases hh : fitN s
  · rfl
  · unfold fitN at hh
    simp only [Bool.and_eq_true, List.all_eq_true, List.mem_range] at hh
    rw [hh.2 i hi] at h
    cases h
theorem fitN_short {s : ByteArray} (h : s.size = 0) : fitN s = false := by
  unfold fitN; simp; omega
theorem fitN_long {s : ByteArray} (h : 32 < s.size) : fitN s = false := by
  unfold fitN; simp; omega
theorem fitN_good {s : ByteArray} (h1 : 1 ≤ s.size) (h2 : s.size ≤ 32) (h : ∀ i, i < s.size → okc i (at8 s i) = true) : fitN s = true := by
  unfold fitN
  simp only [Bool.and_eq_true, List.all_eq_true, List.mem_range, decide_eq_true_eq]
  exact ⟨⟨h1, h2⟩, h⟩
theorem fitN_size {s : ByteArray} (h : fitN s = true) : 1 ≤ s.size ∧ s.size ≤ 32 := by
  unfold fitN at h
  simp only [Bool.and_eq_true, decide_eq_true_eq] at h
  exact h.1
theorem fitV_size {s : ByteArray} (h : fitV s = true) : 1 ≤ s.size ∧ s.size ≤ 64 := by
  unfold fitV at h
  simp only [Bool.and_eq_true, decide_eq_true_eq] at h
  exact h

/-! ### the first error of a list -/

/-- the error of one label, 0 if there is none -/
def labE (x : Lab) : Nat := if fitN x.n = false then 40 else if fitV x.v = false then 41 else 0
/-- does this name stand in the list? -/
def has (l : List Lab) (n : ByteArray) : Bool := l.any fun y => decide (y.n = n)
def chkAux : List Lab → List Lab → Nat
  | _, [] => 0
  | seen, x :: r => if labE x ≠ 0 then labE x else if has seen x.n = true then 42 else chkAux (seen ++ [x]) r
def cntE (k : Nat) : Nat := if k = 0 then 43 else if 8 < k then 44 else 0
def chk (l : List Lab) : Nat := if cntE l.length ≠ 0 then cntE l.length else chkAux [] l

/-- the error that is found ahead of place k -/
theorem chkAux_step (l : List Lab) : ∀ (r seen : List Lab), l = seen ++ r → chkAux seen r = chkAux seen r := fun _ _ _ => rfl

theorem nth_drop (l : List Lab) (k : Nat) (h : k < l.length) : l.drop k = l[k]! :: l.drop (k + 1) := by
  rw [List.drop_eq_getElem_cons h, getElem!_pos l k h]
theorem take_nth (l : List Lab) (k : Nat) (h : k < l.length) : l.take (k + 1) = l.take k ++ [l[k]!] := by
  rw [List.take_succ_eq_append_getElem h, getElem!_pos l k h]

/-- what is left to check at place k -/
def chkAt (l : List Lab) (k : Nat) : Nat := chkAux (l.take k) (l.drop k)
theorem chkAt_end (l : List Lab) : chkAt l l.length = 0 := by
  unfold chkAt; rw [List.drop_length]; rfl
theorem chkAt_zero (l : List Lab) : chkAt l 0 = chkAux [] l := by
  unfold chkAt; simp
theorem chkAt_lab {l : List Lab} {k : Nat} (h : k < l.length) (he : labE l[k]! ≠ 0) : chkAt l k = labE l[k]! := by
  unfold chkAt
  rw [nth_drop l k h, chkAux, if_pos he]
theorem chkAt_twice {l : List Lab} {k : Nat} (h : k < l.length) (he : labE l[k]! = 0) (hh : has (l.take k) l[k]!.n = true) : chkAt l k = 42 := by
  unfold chkAt
  rw [nth_drop l k h, chkAux, if_neg (by omega), if_pos hh]
theorem chkAt_go {l : List Lab} {k : Nat} (h : k < l.length) (he : labE l[k]! = 0) (hh : has (l.take k) l[k]!.n = false) : chkAt l k = chkAt l (k + 1) := by
  unfold chkAt
  rw [nth_drop l k h, chkAux, if_neg (by omega), if_neg (by rw [hh]; decide), take_nth l k h]

end Go.Proofs.YtmmlefbokplnnaaGreatDoor.Lab
