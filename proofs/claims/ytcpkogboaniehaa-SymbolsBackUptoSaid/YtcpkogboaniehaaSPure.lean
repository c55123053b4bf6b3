/-
  Tables of texts, without the program: rising lists; the table of any texts; numbers of texts. Own text.
-/
import Derived.Test.YtcpkogboaniehaaLOrd
namespace Go.Proofs.Ytcpkogboaniehaa.Sym
open Go.RowKit Go Go.Proofs.Ytcpkogboaniehaa.Base Go.Proofs.Ytcpkogboaniehaa.Lab

/-- each text is below those behind it -/
def Ris (l : List ByteArray) : Prop := l.Pairwise fun x y => cmpS x y < 0
def ins (x : ByteArray) : List ByteArray → List ByteArray
  | [] => [x]
  | y :: r => if cmpS x y < 0 then x :: y :: r else if x = y then y :: r else y :: ins x r
/-- the table of these texts -/
def tab (l : List ByteArray) : List ByteArray := l.foldr ins []

theorem mem_ins (x y : ByteArray) : ∀ l : List ByteArray, y ∈ ins x l ↔ y = x ∨ y ∈ l
  | [] => by simp [ins]
  | z :: r => by
    rw [ins]
    split
    · simp
    · split
      · rename_i h
        subst h
        simp
      · simp only [List.mem_cons, mem_ins x y r]
        constructor
        · rintro (h | h | h)
          · exact .inr (.inl h)
          · exact .inl h
          · exact .inr (.inr h)
        · rintro (h | h | h)
          · exact .inr (.inl h)
          · exact .inl h
          · exact .inr (.inr h)
theorem ris_ins (x : ByteArray) : ∀ {l : List ByteArray}, Ris l → Ris (ins x l)
  | [], _ => List.pairwise_singleton _ _
  | y :: r, h => by
    obtain ⟨h1, h2⟩ := List.pairwise_cons.1 h
    rw [ins]
    split
    · rename_i hlt
      refine List.Pairwise.cons (fun z hz => ?_) h
      rcases List.mem_cons.1 hz with rfl | hz
      · exact hlt
      · exact cmpS_ord.lt_le hlt (by have := h1 z hz; omega)
    · split
      · exact h
      · rename_i hn he
        refine List.Pairwise.cons (fun z hz => ?_) (ris_ins x h2)
        rcases (mem_ins x z r).1 hz with rfl | hz
        · have := cmpS_ord.swap z y
          have h0 : cmpS z y ≠ 0 := fun e => he (cmpS_ord.eq _ _ e)
          omega
        · exact h1 z hz
theorem mem_tab (y : ByteArray) : ∀ l : List ByteArray, y ∈ tab l ↔ y ∈ l
  | [] => by simp [tab]
  | x :: r => by
    show y ∈ ins x (tab r) ↔ _
    rw [mem_ins, mem_tab y r, List.mem_cons]
theorem ris_tab : ∀ l : List ByteArray, Ris (tab l)
  | [] => List.Pairwise.nil
  | x :: r => ris_ins x (ris_tab r)

theorem ris_unique : ∀ {a b : List ByteArray}, Ris a → Ris b → (∀ x, x ∈ a ↔ x ∈ b) → a = b
  | [], [], _, _, _ => rfl
  | [], y :: s, _, _, h => by have := (h y).2 (by simp); cases this
  | x :: r, [], _, _, h => by have := (h x).1 (by simp); cases this
  | x :: r, y :: s, ha, hb, h => by
    obtain ⟨a1, a2⟩ := List.pairwise_cons.1 ha
    obtain ⟨b1, b2⟩ := List.pairwise_cons.1 hb
    have hxy : x = y := by
      rcases List.mem_cons.1 ((h x).1 (by simp)) with e | e
      · exact e
      · rcases List.mem_cons.1 ((h y).2 (by simp)) with e2 | e2
        · exact e2.symm
        · have c1 := b1 x e
          have c2 := a1 y e2
          have := cmpS_ord.swap x y
          omega
    subst hxy
    have ne1 : x ∉ r := fun e => by have := a1 x e; rw [cmpS_ord.refl] at this; omega
    have ne2 : x ∉ s := fun e => by have := b1 x e; rw [cmpS_ord.refl] at this; omega
    rw [ris_unique a2 b2 (fun z => ?_)]
    have hz := h z
    simp only [List.mem_cons] at hz
    constructor
    · intro e
      rcases hz.1 (.inr e) with e2 | e2
      · subst e2; exact absurd e ne1
      · exact e2
    · intro e
      rcases hz.2 (.inr e) with e2 | e2
      · subst e2; exact absurd e ne2
      · exact e2
theorem tab_of {l m : List ByteArray} (h : Ris m) (hm : ∀ x, x ∈ m ↔ x ∈ l) : m = tab l := ris_unique h (ris_tab l) (fun x => (hm x).trans (mem_tab x l).symm)
theorem tab_congr {l m : List ByteArray} (h : ∀ x, x ∈ l ↔ x ∈ m) : tab l = tab m := tab_of (ris_tab l) (fun x => (mem_tab x l).trans (h x))
theorem tab_ris {l : List ByteArray} (h : Ris l) : tab l = l := (tab_of h (fun _ => Iff.rfl)).symm
theorem ins_length (x : ByteArray) : ∀ l : List ByteArray, (ins x l).length ≤ l.length + 1
  | [] => by simp [ins]
  | y :: r => by
    rw [ins]
    split
    · simp
    · split
      · simp
      · have := ins_length x r
        simp only [List.length_cons]
        omega
theorem tab_length : ∀ l : List ByteArray, (tab l).length ≤ l.length
  | [] => Nat.le_refl _
  | x :: r => by
    have h1 := ins_length x (tab r)
    have h2 := tab_length r
    show (ins x (tab r)).length ≤ _
    simp only [List.length_cons]
    omega
/-- the lowest text of a table, and the table of the others -/
theorem tab_head {l m : List ByteArray} {x : ByteArray} (hm : ∀ y, y ∈ l ↔ y = x ∨ y ∈ m) (hlt : ∀ y ∈ m, cmpS x y < 0) : tab l = x :: tab m := by
  refine (tab_of (List.Pairwise.cons (fun y hy => hlt y ((mem_tab y m).1 hy)) (ris_tab m)) (fun y => ?_)).symm
  rw [List.mem_cons, mem_tab, hm]

/-! ### numbers of texts -/

theorem ris_at {l : List ByteArray} (h : Ris l) {i j : Nat} (hij : i < j) (hj : j < l.length) : cmpS l[i]! l[j]! < 0 := by
  rw [getElem!_pos l i (by omega), getElem!_pos l j hj]
  exact List.pairwise_iff_getElem.1 h i j (by omega) hj hij
/-- how many texts are below s, ahead of the first one that is not -/
def posS : List ByteArray → ByteArray → Nat
  | [], _ => 0
  | y :: r, s => if cmpS y s < 0 then posS r s + 1 else 0
theorem posS_le (s : ByteArray) : ∀ l : List ByteArray, posS l s ≤ l.length
  | [] => Nat.le_refl _
  | y :: r => by
    have := posS_le s r
    rw [posS]
    split <;> simp only [List.length_cons] <;> omega
theorem posS_lt (s : ByteArray) : ∀ (l : List ByteArray) (t : Nat), t < posS l s → cmpS l[t]! s < 0
  | [], t, h => by simp [posS] at h
  | y :: r, t, h => by
    rw [posS] at h
    split at h
    · rename_i hy
      cases t with
      | zero => simpa using hy
      | succ t =>
        have := posS_lt s r t (by omega)
        simpa using this
    · omega
theorem posS_at (s : ByteArray) : ∀ (l : List ByteArray), posS l s < l.length → ¬ cmpS l[posS l s]! s < 0
  | [], h => by simp [posS] at h
  | y :: r, h => by
    rw [posS] at h ⊢
    split at h
    · rename_i hy
      rw [if_pos hy]
      have := posS_at s r (by simpa using h)
      simpa using this
    · rename_i hy
      rw [if_neg hy]
      simpa using hy
theorem posS_ge {l : List ByteArray} (hl : Ris l) (s : ByteArray) (t : Nat) (h : posS l s ≤ t) (ht : t < l.length) : ¬ cmpS l[t]! s < 0 := by
  have h0 := posS_at s l (by omega)
  rcases Nat.lt_or_ge (posS l s) t with h1 | h1
  · have h2 := ris_at hl h1 ht
    intro h3
    exact h0 (cmpS_ord.lt_le h2 (by omega))
  · rwa [show t = posS l s by omega]
theorem posS_of {l : List ByteArray} (hl : Ris l) {i : Nat} (hi : i < l.length) : posS l l[i]! = i := by
  rcases Nat.lt_trichotomy (posS l l[i]!) i with h | h | h
  · exact absurd (ris_at hl h hi) (posS_at l[i]! l (by omega))
  · exact h
  · have := posS_lt l[i]! l i h
    rw [cmpS_ord.refl] at this
    omega

def numE (l : List ByteArray) (s : ByteArray) : Nat := if posS l s < l.length ∧ l[posS l s]! = s then 0 else 50
def numS (l : List ByteArray) (s : ByteArray) : Nat := if numE l s = 0 then posS l s else 0
theorem numE_in {l : List ByteArray} {s : ByteArray} (h : posS l s < l.length ∧ l[posS l s]! = s) : numE l s = 0 ∧ numS l s = posS l s := by
  have h0 : numE l s = 0 := by unfold numE; rw [if_pos h]
  exact ⟨h0, by unfold numS; rw [if_pos h0]⟩
theorem numE_out {l : List ByteArray} {s : ByteArray} (h : ¬ (posS l s < l.length ∧ l[posS l s]! = s)) : numE l s = 50 ∧ numS l s = 0 := by
  have h0 : numE l s = 50 := by unfold numE; rw [if_neg h]
  exact ⟨h0, by unfold numS; rw [if_neg (by omega)]⟩
theorem numE_at {l : List ByteArray} (hl : Ris l) {i : Nat} (hi : i < l.length) : numE l l[i]! = 0 ∧ numS l l[i]! = i := by
  have e := posS_of hl hi
  have := numE_in (l := l) (s := l[i]!) (by rw [e]; exact ⟨hi, rfl⟩)
  exact ⟨this.1, by rw [this.2, e]⟩
theorem numE_mem {l : List ByteArray} (hl : Ris l) {s : ByteArray} (h : s ∈ l) : numE l s = 0 ∧ numS l s < l.length ∧ l[numS l s]! = s := by
  obtain ⟨i, hi, rfl⟩ := List.mem_iff_getElem.1 h
  have e : l[i]! = l[i] := getElem!_pos l i hi
  have := numE_at hl hi
  rw [e] at this
  rw [this.2]
  exact ⟨this.1, hi, e⟩
theorem numE_zero {l : List ByteArray} {s : ByteArray} (h : numE l s = 0) : numS l s < l.length ∧ l[numS l s]! = s := by
  by_cases h2 : posS l s < l.length ∧ l[posS l s]! = s
  · rw [(numE_in h2).2]; exact h2
  · rw [(numE_out h2).1] at h; cases h
theorem numS_lt (l : List ByteArray) (s : ByteArray) : numS l s ≤ l.length := by
  unfold numS
  split
  · exact posS_le s l
  · omega

end Go.Proofs.Ytcpkogboaniehaa.Sym
