/-
  Sorted lists, sets: own text, without the program's walks.
-/
import Derived.Test.YtcpkogboaniehaaLShow
namespace Go.Proofs.Ytcpkogboaniehaa.Lab
open Go.RowKit Go Go.Proofs.Ytcpkogboaniehaa.Base Go.Shelf Go.Sort

theorem sort_pair (l : List Lab) : (sortL l).Pairwise fun x y => (!(ltOf cmpLab) y x) = true := by
  unfold sortL
  refine List.pairwise_mergeSort ?_ ?_ l
  · intro a b c h1 h2
    simp only [Bool.not_eq_true', ltOf, decide_eq_false_iff_not] at *
    have := cmpLab_ord.swap a b
    have := cmpLab_ord.swap b c
    have := cmpLab_ord.swap a c
    have := cmpLab_ord.trans a b c (by omega) (by omega)
    omega
  · intro a b
    simp only [Bool.or_eq_true, Bool.not_eq_true', ltOf, decide_eq_false_iff_not]
    have := cmpLab_ord.swap a b
    omega
theorem sort_perm (l : List Lab) : (sortL l).Perm l := List.mergeSort_perm _ _

/-- a sorted permutation is the sorted list -/
theorem sort_unique {l m : List Lab} (hp : l.Perm m) (hs : m.Pairwise fun x y => cmpLab x y ≤ 0) : sortL l = m := by
  refine List.Perm.eq_of_pairwise (le := fun x y => (!(ltOf cmpLab) y x) = true) ?_ (sort_pair l) (hs.imp ?_) ((sort_perm l).trans hp)
  · intro a b _ _ h1 h2
    simp only [Bool.not_eq_true'] at h1 h2
    exact (totLab a b h2 h1)
  · intro a b h
    simp only [Bool.not_eq_true', ltOf, decide_eq_false_iff_not]
    have := cmpLab_ord.swap a b
    omega

/-- names rise -/
def Asc (l : List Lab) : Prop := l.Pairwise fun x y => cmpS x.n y.n < 0
theorem asc_le {x y : Lab} (h : cmpS x.n y.n < 0) : cmpLab x y ≤ 0 := by
  unfold cmpLab; rw [if_pos (by omega)]; omega
theorem Asc.sorted {l : List Lab} (h : Asc l) : sortL l = l := sort_unique (List.Perm.refl _) (h.imp asc_le)

/-- names are apart -/
def Apart (l : List Lab) : Prop := l.Pairwise fun x y => x.n ≠ y.n
theorem Asc.apart {l : List Lab} (h : Asc l) : Apart l := h.imp fun {x y} h e => by rw [e, cmpS_ord.refl] at h; omega

theorem has_iff (l : List Lab) (n : ByteArray) : has l n = true ↔ ∃ y ∈ l, y.n = n := by
  unfold has
  rw [List.any_eq_true]
  simp only [decide_eq_true_eq]

theorem chkAux_zero : ∀ (r seen : List Lab), chkAux seen r = 0 ↔ (∀ x ∈ r, labE x = 0) ∧ Apart r ∧ ∀ x ∈ r, ∀ y ∈ seen, y.n ≠ x.n
  | [], seen => by simp [chkAux, Apart]
  | x :: r, seen => by
    rw [chkAux]
    by_cases h1 : labE x = 0
    · rw [if_neg (by omega)]
      by_cases h2 : has seen x.n = true
      · rw [if_pos h2]
        obtain ⟨y, hy, he⟩ := (has_iff _ _).1 h2
        constructor
        · intro h; cases h
        · intro ⟨_, _, h⟩
          exact absurd he (h x (by simp) y hy)
      · rw [if_neg h2, chkAux_zero r (seen ++ [x])]
        have hn : ∀ y ∈ seen, y.n ≠ x.n := fun y hy e => h2 ((has_iff _ _).2 ⟨y, hy, e⟩)
        constructor
        · rintro ⟨a, b, c⟩
          refine ⟨?_, ?_, ?_⟩
          · intro z hz
            rcases List.mem_cons.1 hz with rfl | hz
            · exact h1
            · exact a z hz
          · refine List.Pairwise.cons (fun z hz => c z hz x (by simp)) b
          · intro z hz y hy
            rcases List.mem_cons.1 hz with rfl | hz
            · exact hn y hy
            · exact c z hz y (by simp [hy])
        · rintro ⟨a, b, c⟩
          have hb := List.pairwise_cons.1 b
          refine ⟨fun z hz => a z (by simp [hz]), hb.2, ?_⟩
          intro z hz y hy
          rcases List.mem_append.1 hy with hy | hy
          · exact c z (by simp [hz]) y hy
          · rw [List.mem_singleton.1 hy]; exact hb.1 z hz
    · rw [if_pos h1]
      constructor
      · intro h; exact absurd h h1
      · intro ⟨a, _, _⟩
        exact absurd (a x (by simp)) h1

theorem chk_zero (l : List Lab) : chk l = 0 ↔ 1 ≤ l.length ∧ l.length ≤ 8 ∧ (∀ x ∈ l, labE x = 0) ∧ Apart l := by
  constructor
  · intro h
    obtain ⟨h1, h8⟩ := chk_zero_len h
    unfold chk at h
    split at h
    · rename_i hh; exact absurd h hh
    · have := (chkAux_zero l []).1 h
      exact ⟨h1, h8, this.1, this.2.1⟩
  · rintro ⟨h1, h8, a, b⟩
    have h0 : cntE l.length = 0 := by unfold cntE; rw [if_neg (by omega), if_neg (by omega)]
    unfold chk
    rw [if_neg (by omega)]
    exact (chkAux_zero l []).2 ⟨a, b, fun _ _ y hy => by cases hy⟩

theorem pair_adj {α : Type} [Inhabited α] (R : α → α → Prop) (tr : ∀ a b c, R a b → R b c → R a c) : ∀ (l : List α), (∀ i, i + 1 < l.length → R l[i]! l[i + 1]!) → l.Pairwise R
  | [], _ => List.Pairwise.nil
  | [x], _ => List.pairwise_singleton _ _
  | x :: y :: r, h => by
    have h2 : (y :: r).Pairwise R := pair_adj R tr (y :: r) (fun i hi => by
      have := h (i + 1) (by simpa using hi)
      simpa using this)
    have h0 : R x y := by simpa using h 0 (by simp)
    refine List.Pairwise.cons (fun z hz => ?_) h2
    rcases List.mem_cons.1 hz with rfl | hz
    · exact h0
    · exact tr _ _ _ h0 ((List.pairwise_cons.1 h2).1 z hz)
theorem adj_pair {α : Type} [Inhabited α] {R : α → α → Prop} {l : List α} (h : l.Pairwise R) {i j : Nat} (hij : i < j) (hj : j < l.length) : R l[i]! l[j]! := by
  rw [getElem!_pos l i (by omega), getElem!_pos l j hj]
  exact List.pairwise_iff_getElem.1 h i j (by omega) hj hij

theorem asc_of_adj {l : List Lab} (h : ∀ i, i + 1 < l.length → cmpS l[i]!.n l[i + 1]!.n < 0) : Asc l :=
  pair_adj (fun x y : Lab => cmpS x.n y.n < 0) (fun _ _ _ h1 h2 => cmpS_ord.lt_le h1 (by omega)) l h

/-- names apart and neighbours the right way round: names rise -/
theorem srt_asc {l : List Lab} (ha : Apart l) : srtB l = true ↔ Asc l := by
  constructor
  · intro h
    refine asc_of_adj fun i hi => ?_
    have h1 := srtB_at h i hi
    have h2 : l[i]!.n ≠ l[i + 1]!.n := adj_pair ha (Nat.lt_succ_self i) hi
    have h3 := cmpLab_ord.swap l[i]! l[i + 1]!
    have h4 : cmpS l[i]!.n l[i + 1]!.n ≠ 0 := fun e => h2 (cmpS_ord.eq _ _ e)
    have h5 : cmpLab l[i]! l[i + 1]! = cmpS l[i]!.n l[i + 1]!.n := by
      rw [cmpLab, if_pos h4]
    omega
  · intro h
    refine srtB_true fun i hi => ?_
    have h1 : cmpS l[i]!.n l[i + 1]!.n < 0 := adj_pair h (Nat.lt_succ_self i) hi
    have h3 := cmpLab_ord.swap l[i]! l[i + 1]!
    have := asc_le h1
    omega

theorem valid_iff (l : List Lab) : validB l = true ↔ chk l = 0 ∧ Asc l := by
  unfold validB setE
  simp only [decide_eq_true_eq]
  by_cases h : chk l = 0
  · have ha := ((chk_zero l).1 h).2.2.2
    rw [if_neg (by omega)]
    by_cases hs : srtB l = true
    · rw [if_pos hs]
      exact ⟨fun _ => ⟨h, (srt_asc ha).1 hs⟩, fun _ => rfl⟩
    · rw [if_neg hs]
      exact ⟨fun e => absurd e (by decide), fun e => absurd ((srt_asc ha).2 e.2) hs⟩
  · rw [if_pos h]
    exact ⟨fun e => absurd e h, fun e => absurd e.1 h⟩
theorem setE_eq (l : List Lab) : setE l = if chk l ≠ 0 then chk l else if validB l = true then 0 else 42 := by
  by_cases h : chk l = 0
  · rw [if_neg (by omega)]
    by_cases hs : srtB l = true
    · have he : setE l = 0 := by unfold setE; rw [if_neg (by omega), if_pos hs]
      rw [he, if_pos (by unfold validB; rw [he]; rfl)]
    · have he : setE l = 42 := by unfold setE; rw [if_neg (by omega), if_neg hs]
      rw [he, if_neg (by unfold validB; rw [he]; decide)]
  · rw [if_pos h]
    unfold setE
    rw [if_pos h]

/-- the sorted list of labels that make a set is a set -/
theorem sort_asc {l : List Lab} (ha : Apart l) : Asc (sortL l) := by
  have hs : Apart (sortL l) := List.Perm.pairwise (sort_perm l).symm ha (fun h => h.symm)
  refine List.Pairwise.imp₂ (R := fun x y => (!(ltOf cmpLab) y x) = true) (S := fun x y : Lab => x.n ≠ y.n) ?_ (sort_pair l) hs
  intro x y h1 h2
  simp only [Bool.not_eq_true', ltOf, decide_eq_false_iff_not] at h1
  have h3 := cmpLab_ord.swap x y
  have h4 : cmpS x.n y.n ≠ 0 := fun e => h2 (cmpS_ord.eq _ _ e)
  have h5 : cmpLab x y = cmpS x.n y.n := by rw [cmpLab, if_pos h4]
  omega
theorem make_valid {l : List Lab} (h : chk l = 0) : validB (sortL l) = true := by
  obtain ⟨h1, h8, a, b⟩ := (chk_zero l).1 h
  refine (valid_iff _).2 ⟨(chk_zero _).2 ⟨by rw [sortL_length]; exact h1, by rw [sortL_length]; exact h8, fun x hx => a x ((sort_perm l).mem_iff.1 hx), ?_⟩, sort_asc b⟩
  exact (sort_asc b).apart

end Go.Proofs.Ytcpkogboaniehaa.Lab
