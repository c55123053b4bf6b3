/-
  Lists of labels as they lie in memory; contracts of Get and Compare. Own text.
-/
import Derived.Test.YtcpkogboaniehaaLCmp
import Derived.Deep.LoopGhost
namespace Go.Proofs.Ytcpkogboaniehaa.Lab
open Go.RowKit Go Go.Proofs.Ytcpkogboaniehaa.Base Go.Shelf Go.Sort

/-- the cells of a list of labels (of the program's or of the document's; nil: it is empty) -/
def LabsAt (w : World) (ao : Option Addr) (l : List Lab) : Prop :=
  ∀ j, j < l.length → ∃ b off, ao = some ⟨b, off, none⟩ ∧ b < w.heap.size ∧ w.cell? ⟨b, off + j * 2, none⟩ = some (.string l[j]!.n) ∧ w.cell? ⟨b, off + j * 2 + 1, none⟩ = some (.string l[j]!.v)

theorem LabsAt.below {w w' : World} {ao : Option Addr} {l : List Lab} {B : Nat} (h : LabsAt w ao l) (hb : Below B w w') (hB : w.heap.size ≤ B) : LabsAt w' ao l := fun j hj => by
  obtain ⟨b, off, h1, h2, h3, h4⟩ := h j hj
  have hs := hb.size
  exact ⟨b, off, h1, by omega, (hb.cell (p := ⟨b, off + j * 2, none⟩) (by show b < B; omega)).trans h3, (hb.cell (p := ⟨b, off + j * 2 + 1, none⟩) (by show b < B; omega)).trans h4⟩
theorem LabsAt.nil (w : World) (ao : Option Addr) : LabsAt w ao [] := fun j hj => by cases hj
theorem LabsAt.take {w : World} {ao : Option Addr} {l : List Lab} (h : LabsAt w ao l) (k : Nat) : LabsAt w ao (l.take k) := fun j hj => by
  rw [List.length_take] at hj
  obtain ⟨b, off, h1, h2, h3, h4⟩ := h j (by omega)
  have e : (l.take k)[j]! = l[j]! := by
    rw [getElem!_pos _ j (by rw [List.length_take]; omega), getElem!_pos l j (by omega), List.getElem_take]
  exact ⟨b, off, h1, h2, by rw [e]; exact h3, by rw [e]; exact h4⟩

/-- the value of a name -/
def getV : List Lab → ByteArray → ByteArray
  | [], _ => ByteArray.empty
  | x :: r, n => if x.n = n then x.v else getV r n
theorem getV_step (l : List Lab) (n : ByteArray) (k : Nat) (h : k < l.length) : getV (l.drop k) n = if l[k]!.n = n then l[k]!.v else getV (l.drop (k + 1)) n := by
  rw [nth_drop l k h, getV]
theorem getV_end (l : List Lab) (n : ByteArray) : getV (l.drop l.length) n = ByteArray.empty := by rw [List.drop_length]; rfl

theorem str_eq {a b : ByteArray} (h : a = b) : (a.toList == b.toList) = true := by rw [h]; simp
theorem str_ne {a b : ByteArray} (h : ¬ a = b) : (a.toList == b.toList) = false := by
  rw [beq_eq_false_iff_ne]
  intro e
  rw [toList_data, toList_data] at e
  exact h (lst_inj e)

theorem less_cmp (a b : ByteArray) : Op.bytesLess a.toList b.toList = decide (cmpS a b < 0) := by
  rw [toList_data, toList_data]
  unfold cmpS lst
  generalize a.data.toList = x
  generalize b.data.toList = y
  induction x generalizing y with
  | nil => cases y <;> simp [Op.bytesLess, Lib.compareBytes]
  | cons x r ih =>
    cases y with
    | nil => simp [Op.bytesLess, Lib.compareBytes]
    | cons y s =>
      rw [Op.bytesLess, Lib.compareBytes, ih s]
      by_cases h1 : x < y
      · simp [h1]
      · by_cases h2 : y < x
        · have h3 : ¬ x = y := fun e => by subst e; exact h1 h2
          simp [h1, h2, h3]
        · have h3 : x = y := by
            apply UInt8.toNat_inj.1
            simp only [UInt8.lt_iff_toNat_lt] at h1 h2
            omega
          subst h3
          simp [h1]

/-- how two texts stand to one another, in all the spellings -/
inductive Cmp3 (x y : ByteArray) : Prop
  | lt (h : cmpS x y = -1) (h1 : Op.bytesLess x.toList y.toList = true) (h2 : Op.bytesLess y.toList x.toList = false) (h3 : (x.toList == y.toList) = false) (h4 : ¬ x = y)
  | eq (h : cmpS x y = 0) (h1 : Op.bytesLess x.toList y.toList = false) (h2 : Op.bytesLess y.toList x.toList = false) (h3 : (x.toList == y.toList) = true) (h4 : x = y)
  | gt (h : cmpS x y = 1) (h1 : Op.bytesLess x.toList y.toList = false) (h2 : Op.bytesLess y.toList x.toList = true) (h3 : (x.toList == y.toList) = false) (h4 : ¬ x = y)
theorem cmp3 (x y : ByteArray) : Cmp3 x y := by
  have hs := cmpS_ord.swap x y
  rcases cmpS_ord.rng x y with h | h | h
  · have hn : ¬ x = y := fun e => by subst e; rw [cmpS_ord.refl] at h; cases h
    exact .lt h (by rw [less_cmp]; simp; omega) (by rw [less_cmp]; simp; omega) (str_ne hn) hn
  · have he := cmpS_ord.eq _ _ h
    exact .eq h (by rw [less_cmp]; simp; omega) (by rw [less_cmp]; simp; omega) (str_eq he) he
  · have hn : ¬ x = y := fun e => by subst e; rw [cmpS_ord.refl] at h; cases h
    exact .gt h (by rw [less_cmp]; simp; omega) (by rw [less_cmp]; simp; omega) (str_ne hn) hn

end Go.Proofs.Ytcpkogboaniehaa.Lab
