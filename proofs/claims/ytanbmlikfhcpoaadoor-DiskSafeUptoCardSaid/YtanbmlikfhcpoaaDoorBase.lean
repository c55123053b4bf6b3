/-
  Texts as lists of numbers, rows of bytes, small facts on worlds: for any seat with strings and bytes. Own text.
-/
import Derived.Test.YtanbmlikfhcpoaaDoorChecked
import Derived.WalkKit
import Derived.WalkLawsBesides
import Derived.WalkSpells
import Derived.Deep.QuietTactic
import Derived.BigQuiet
import Derived.IntWalk
import Derived.Deep.LoopGhost
import Derived.Deep.DeepCutAuto
import Derived.Maps.AppendAt
import Derived.Lib.Hide
import Derived.Below
import Derived.Carry
namespace Go.Proofs.YtanbmlikfhcpoaaDoor.Base
open Go.RowKit Go

theorem ret_int {k : IntKind} {a b : Int} (h : a = b) : Ending.returned (.int k a) = .returned (.int k b) := by rw [h]
theorem ret_str {a b : ByteArray} (h : a = b) : Ending.returned (.string a) = .returned (.string b) := by rw [h]
theorem val_int {k : IntKind} {a b : Int} (h : a = b) : Value.int k a = Value.int k b := by rw [h]

/-- bytes as values -/
def u8s (l : List Nat) : List Value := l.map fun (b : Nat) => Value.int .u8 (b : Int)
theorem u8s_append (l m : List Nat) : u8s (l ++ m) = u8s l ++ u8s m := by simp [u8s]
theorem u8s_length (l : List Nat) : (u8s l).length = l.length := by simp [u8s]
theorem u8s_set (l : List Nat) (i y : Nat) : (u8s l).set i (.int .u8 (y : Int)) = u8s (l.set i y) := by simp [u8s, List.map_set]

/-- the bytes of a text, as numbers -/
def nums (s : ByteArray) : List Nat := s.data.toList.map UInt8.toNat
theorem nums_length (s : ByteArray) : (nums s).length = s.size := by simp [nums]
theorem nums_lt (s : ByteArray) : ∀ x ∈ nums s, x < 256 := by
  intro x hx
  simp only [nums, List.mem_map] at hx
  obtain ⟨b, _, rfl⟩ := hx
  exact b.toNat_lt
theorem nums_at (s : ByteArray) (i : Nat) (h : i < s.size) : (nums s)[i]? = some (s[i]'h).toNat := by
  unfold nums
  rw [List.getElem?_map, List.getElem?_eq_getElem (by simpa using h)]
  rfl

/-- the byte at a place of a text -/
def at8 (s : ByteArray) (i : Nat) : Nat := (nums s).getD i 0
theorem at8_eq (s : ByteArray) (i : Nat) (h : i < s.size) : at8 s i = (s[i]'h).toNat := by
  unfold at8
  rw [List.getD, nums_at s i h]
  rfl
theorem at8_lt (s : ByteArray) (i : Nat) : at8 s i < 256 := by
  by_cases h : i < s.size
  · rw [at8_eq s i h]; exact (s[i]'h).toNat_lt
  · unfold at8
    rw [List.getD, List.getElem?_eq_none (by rw [nums_length]; omega)]
    simp

/-- numbers as a text -/
def strN (l : List Nat) : ByteArray := ⟨(l.map UInt8.ofNat).toArray⟩
theorem strN_size (l : List Nat) : (strN l).size = l.length := by simp [strN, ByteArray.size]
theorem strN_nums (l : List Nat) (h : ∀ x ∈ l, x < 256) : nums (strN l) = l := by
  unfold nums strN
  simp only [List.map_map]
  have : ∀ x ∈ l, (UInt8.toNat ∘ UInt8.ofNat) x = x := by
    intro x hx
    have := h x hx
    simp only [Function.comp]
    rw [UInt8.toNat_ofNat']
    omega
  conv => rhs; rw [← List.map_id l]
  exact List.map_congr_left this
theorem nums_inj {s t : ByteArray} (h : nums s = nums t) : s = t := by
  unfold nums at h
  have h2 : s.data.toList = t.data.toList := by
    apply List.ext_getElem?
    intro i
    have h3 := congrArg (fun l => l[i]?) h
    simp only [List.getElem?_map] at h3
    cases hs : s.data.toList[i]? <;> cases ht : t.data.toList[i]? <;> simp_all
    exact UInt8.toNat_inj.1 h3
  cases s; cases t
  simp only at h2
  congr 1
  exact Array.toList_inj.1 h2
theorem nums_strN (s : ByteArray) : strN (nums s) = s := nums_inj (strN_nums _ (nums_lt s))
theorem nums_append (s t : ByteArray) : nums (s ++ t) = nums s ++ nums t := by
  unfold nums
  simp [ByteArray.data_append]
theorem nums_extract (s : ByteArray) (a b : Nat) : nums (s.extract a b) = ((nums s).drop a).take (b - a) := by
  unfold nums
  simp [ByteArray.data_extract, List.map_drop, List.map_take]
theorem strN_append (l m : List Nat) : strN (l ++ m) = strN l ++ strN m := by
  cases h : strN l ++ strN m
  have h2 : (strN l ++ strN m).data = (strN l).data ++ (strN m).data := ByteArray.data_append
  rw [h] at h2
  unfold strN at *
  simp only at h2
  congr 1
  rw [h2]
  simp
theorem strN_of (l : List Nat) : strOfNums (l.map fun (n : Nat) => (n : Int)) = strN l := by
  unfold strOfNums strN
  congr 2
  rw [List.map_map]
  rfl

theorem info8 : (Tryd.prog.info? 5).map (fun i => (i.zero, i.size, i.bytes)) = some (some (.int .u8 0), 1, 1) := by kernel_rfl

theorem conv_own {w : World} {B n : Nat} {v : Value} {l : List Nat} (h : w.ownsRow B 5 1 v n (u8s l)) :
    (convert 30 9 v).run Tryd.prog w = .ok (.string (strN l)) w := by
  rcases h.2 with ⟨rfl, h0⟩ | ⟨g, cap, cur, rfl, _, _, _⟩
  · have hl : l = [] := by
      have := h.1
      rw [u8s_length, h0] at this
      exact List.eq_nil_of_length_eq_zero (by omega)
    subst hl
    exact run_convert_bytes_nil w 30 5 Tryd.underlying30 Tryd.underlying5 0 0 9 Tryd.underlying9
  · have hlen : l.length = n := by have := h.1; rw [u8s_length] at this; omega
    rw [← strN_of]
    refine run_convert_bytes_arg w 30 5 Tryd.underlying30 Tryd.underlying5 g 0 n cap (l.map fun (n : Nat) => (n : Int)) (by simpa using hlen) ?_ 9 Tryd.underlying9
    intro i hi
    rw [Nat.zero_add, h.cellAt i (by omega)]
    simp [u8s, List.getD, hlen, hi]

theorem below_alloc (w : World) (o : Obj) : Below w.heap.size w (w.alloc o) := (Below.refl _ _).alloc (Nat.le_refl _) _
theorem below_drewN {B : Nat} {a w : World} (h : Below B a w) (n : Nat) : Below B a (w.drewN n) := ⟨h.os, h.tape, h.output, h.size, h.block⟩
theorem below_then {w a b : World} (h : Below w.heap.size w a) (k : Below a.heap.size a b) : Below w.heap.size w b := h.trans (k.mono h.size)

end Go.Proofs.YtanbmlikfhcpoaaDoor.Base
