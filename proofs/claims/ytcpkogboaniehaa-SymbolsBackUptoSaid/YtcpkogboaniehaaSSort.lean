/-
  Sorted texts, each once: what slices.Sort and slices.Compact make is the table. Own text, without the program's walks.
-/
import Derived.Test.YtcpkogboaniehaaSPure
import Derived.Lib.SlicesCompact
import Derived.Sort.EncStr
namespace Go.Proofs.Ytcpkogboaniehaa.Sym
open Go.RowKit Go Go.Proofs.Ytcpkogboaniehaa.Base Go.Proofs.Ytcpkogboaniehaa.Lab Go.Sort

theorem cb_ord : Ord3 Lib.compareBytes := by
  have e : Lib.compareBytes = lexL ord8 := by funext a b; exact compareBytes_lex a b
  rw [e]
  exact lexL_ord ord8_ord
theorem lt_cb : ∀ x y : List UInt8, x < y ↔ Lib.compareBytes x y < 0
  | [], [] => by simp [Lib.compareBytes]
  | [], b :: s => by simp [Lib.compareBytes]
  | a :: r, [] => by simp [Lib.compareBytes]
  | a :: r, b :: s => by
    rw [List.cons_lt_cons_iff, lt_cb r s, Lib.compareBytes]
    by_cases h1 : a < b
    · simp [h1]
    · by_cases h2 : b < a
      · have h3 : ¬ a = b := fun e => by subst e; exact h1 h2
        simp [h1, h2, h3]
      · have h3 : a = b := by
          apply UInt8.toNat_inj.1
          simp only [UInt8.lt_iff_toNat_lt] at h1 h2
          omega
        subst h3
        simp [h1]
theorem le_cb (x y : List UInt8) : x ≤ y ↔ Lib.compareBytes x y ≤ 0 := by
  rw [← List.not_lt, lt_cb]
  have := cb_ord.swap x y
  omega

/-- a text of bytes -/
def ofL (b : List UInt8) : ByteArray := ⟨b.toArray⟩
theorem lst_ofL (b : List UInt8) : lst (ofL b) = b := rfl
theorem ofL_lst (s : ByteArray) : ofL (lst s) = s := lst_inj rfl
theorem encStr_eq (b : List UInt8) : encStr b = .string (ofL b) := rfl

/-- the bytes of each text, sorted -/
def srtL (l : List ByteArray) : List (List UInt8) := (l.map lst).mergeSort fun x y => decide (x ≤ y)
theorem srtL_length (l : List ByteArray) : (srtL l).length = l.length := by unfold srtL; simp
theorem srtL_pair (l : List ByteArray) : (srtL l).Pairwise fun x y => Lib.compareBytes x y ≤ 0 := by
  have h : (srtL l).Pairwise fun x y => decide (x ≤ y) = true := by
    unfold srtL
    refine List.pairwise_mergeSort ?_ ?_ _
    · intro a b c h1 h2
      simp only [decide_eq_true_eq, le_cb] at *
      exact cb_ord.trans a b c h1 h2
    · intro a b
      simp only [Bool.or_eq_true, decide_eq_true_eq, le_cb]
      have := cb_ord.swap a b
      omega
  exact h.imp fun {x y} h => (le_cb x y).1 (of_decide_eq_true h)
theorem srtL_mem (l : List ByteArray) (b : List UInt8) : b ∈ srtL l ↔ ofL b ∈ l := by
  unfold srtL
  rw [List.mem_mergeSort, List.mem_map]
  constructor
  · rintro ⟨a, h, rfl⟩; rw [ofL_lst]; exact h
  · intro h; exact ⟨_, h, rfl⟩

section
variable {α : Type} [Inhabited α] [DecidableEq α]
theorem mem_compact (zs : List α) (x : α) : x ∈ Lib.compact zs ↔ x ∈ zs := by
  unfold Lib.compact Lib.compactUpTo
  rw [List.mem_map]
  constructor
  · rintro ⟨j, hj, rfl⟩
    have hlt : j < zs.length := List.mem_range.1 (List.mem_filter.1 hj).1
    have e : zs.toArray[j]! = zs[j] := by rw [getElem!_pos _ j (by simpa using hlt)]; simp
    rw [e]
    exact List.getElem_mem _
  · intro h
    have hex : ∃ j, j < zs.length ∧ zs.toArray[j]! = x := by
      obtain ⟨j, hj, rfl⟩ := List.mem_iff_getElem.1 h
      exact ⟨j, hj, by rw [getElem!_pos _ j (by simpa using hj)]; simp⟩
    have hfind : ∀ n, (∃ j, j < n ∧ j < zs.length ∧ zs.toArray[j]! = x) → ∃ j, j < zs.length ∧ zs.toArray[j]! = x ∧ ∀ i, i < j → zs.toArray[i]! ≠ x := by
      intro n
      induction n with
      | zero => rintro ⟨j, hj, _⟩; omega
      | succ n ih =>
        rintro ⟨j, hj, hl, he⟩
        by_cases hn : ∃ j, j < n ∧ j < zs.length ∧ zs.toArray[j]! = x
        · exact ih hn
        · exact ⟨j, hl, he, fun i hi e => hn ⟨i, by omega, by omega, e⟩⟩
    obtain ⟨j, hj, he, hmin⟩ := hfind zs.length (by obtain ⟨j, hj, he⟩ := hex; exact ⟨j, hj, hj, he⟩)
    refine ⟨j, List.mem_filter.2 ⟨List.mem_range.2 hj, ?_⟩, he⟩
    unfold Lib.keeps
    refine decide_eq_true ?_
    by_cases h0 : j = 0
    · exact .inl h0
    · exact .inr (by rw [he]; exact fun e => hmin (j - 1) (by omega) e.symm)
theorem compact_pair (R : α → α → Prop) (zs : List α) (h : zs.Pairwise fun x y => x = y ∨ R x y) (tr : ∀ a b c, (a = b ∨ R a b) → R b c → R a c) : (Lib.compact zs).Pairwise R := by
  unfold Lib.compact Lib.compactUpTo
  rw [List.pairwise_map]
  have h0 : ((List.range zs.length).filter (Lib.keeps zs.toArray)).Pairwise fun i j => i < j := (List.pairwise_lt_range).filter _
  refine List.Pairwise.imp_of_mem (fun {i j} hi hj hlt => ?_) h0
  obtain ⟨hj1, hj2⟩ := List.mem_filter.1 hj
  have hjl : j < zs.length := List.mem_range.1 hj1
  unfold Lib.keeps at hj2
  have hne : zs.toArray[j]! ≠ zs.toArray[j - 1]! := by
    rcases of_decide_eq_true hj2 with e | e
    · omega
    · exact e
  have at' : ∀ k, (hk : k < zs.length) → zs.toArray[k]! = zs[k] := fun k hk => by rw [getElem!_pos _ k (by simpa using hk)]; simp
  have le : ∀ a b, a ≤ b → (hb : b < zs.length) → zs.toArray[a]! = zs.toArray[b]! ∨ R zs.toArray[a]! zs.toArray[b]! := fun a b hab hb => by
    rcases Nat.lt_or_ge a b with h1 | h1
    · rw [at' a (by omega), at' b hb]
      exact List.pairwise_iff_getElem.1 h a b (by omega) hb h1
    · obtain rfl : a = b := by omega
      exact .inl rfl
  have h1 := le i (j - 1) (by omega) (by omega)
  have h2 : R zs.toArray[j - 1]! zs.toArray[j]! := by
    rcases le (j - 1) j (by omega) hjl with e | e
    · exact absurd e.symm hne
    · exact e
  exact tr _ _ _ h1 h2
theorem compact_length (zs : List α) : (Lib.compact zs).length ≤ zs.length := by
  unfold Lib.compact Lib.compactUpTo
  rw [List.length_map]
  have := List.length_filter_le (Lib.keeps zs.toArray) (List.range zs.length)
  rw [List.length_range] at this
  exact this
end

theorem made_tab (l : List ByteArray) : (Lib.compact (srtL l)).map ofL = tab l := by
  refine tab_of ?_ (fun x => ?_)
  · refine List.pairwise_map.2 ?_
    refine compact_pair (fun x y => cmpS (ofL x) (ofL y) < 0) _ ?_ ?_
    · refine (srtL_pair l).imp fun {x y} h => ?_
      show _ ∨ Lib.compareBytes x y < 0
      by_cases e : Lib.compareBytes x y = 0
      · exact .inl (cb_ord.eq _ _ e)
      · exact .inr (by omega)
    · rintro a b c (rfl | h1) h2
      · exact h2
      · exact cmpS_ord.lt_le h1 (by omega)
  · rw [List.mem_map]
    constructor
    · rintro ⟨b, hb, rfl⟩
      exact (srtL_mem l b).1 ((mem_compact _ _).1 hb)
    · intro h
      exact ⟨lst x, (mem_compact _ _).2 ((srtL_mem l _).2 (by rw [ofL_lst]; exact h)), ofL_lst x⟩

end Go.Proofs.Ytcpkogboaniehaa.Sym
