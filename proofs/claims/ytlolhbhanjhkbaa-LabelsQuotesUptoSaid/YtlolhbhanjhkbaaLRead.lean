/-
  A set out of its text: contracts of readShown, readList, Read. Own text.
-/
import Derived.Test.YtlolhbhanjhkbaaLUnq2
import Derived.Test.YtlolhbhanjhkbaaLDec
import Derived.Test.YtlolhbhanjhkbaaLAlike
namespace Go.Proofs.Ytlolhbhanjhkbaa.Lab
open Go.RowKit Go Go.Proofs.Ytlolhbhanjhkbaa.Base Go.Shelf Go.Sort

/-- where the first equals sign stands from place a on (the text's end: there is none) -/
def fqL : List Nat → Nat
  | [] => 0
  | b :: r => if b = 61 then 0 else fqL r + 1
def fq (s : ByteArray) (a : Nat) : Nat := a + fqL ((nums s).drop a)
theorem fqL_le : ∀ l : List Nat, fqL l ≤ l.length
  | [] => Nat.le_refl _
  | b :: r => by
    rw [fqL]; split
    · omega
    · have := fqL_le r; simp only [List.length_cons]; omega
theorem fq_le (s : ByteArray) (a : Nat) (h : a ≤ s.size) : fq s a ≤ s.size := by
  unfold fq
  have := fqL_le ((nums s).drop a)
  rw [List.length_drop, nums_length] at this
  omega
theorem drop_at8 (s : ByteArray) (k : Nat) (h : k < s.size) : (nums s).drop k = at8 s k :: (nums s).drop (k + 1) := by
  rw [List.drop_eq_getElem_cons (by rw [nums_length]; exact h)]
  congr 1
  unfold at8
  rw [List.getD, List.getElem?_eq_getElem (by rw [nums_length]; exact h)]
  rfl
theorem fq_here {s : ByteArray} {k : Nat} (h : k < s.size) (h2 : at8 s k = 61) : fq s k = k := by
  unfold fq; rw [drop_at8 s k h, fqL, if_pos h2]; rfl
theorem fq_next {s : ByteArray} {k : Nat} (h : k < s.size) (h2 : at8 s k ≠ 61) : fq s k = fq s (k + 1) := by
  unfold fq; rw [drop_at8 s k h, fqL, if_neg h2]; omega
theorem fq_end (s : ByteArray) : fq s s.size = s.size := by
  unfold fq; rw [List.drop_eq_nil_of_le (by rw [nums_length]; omega)]; rfl

theorem index_fqL : ∀ l : List UInt8, Lib.indexByte l 61 = if fqL (l.map UInt8.toNat) < l.length then ((fqL (l.map UInt8.toNat) : Nat) : Int) else -1
  | [] => rfl
  | b :: r => by
    rw [Lib.indexByte, List.map_cons, fqL, index_fqL r]
    by_cases h : b = 61
    · subst h
      simp
    · have h1 : (b == 61) = false := by simpa using h
      have h2 : b.toNat ≠ 61 := fun e => h (UInt8.toNat_inj.1 e)
      rw [h1, if_neg h2]
      simp only [Bool.false_eq_true, if_false, List.length_cons]
      generalize fqL (r.map UInt8.toNat) = F
      by_cases h3 : F < r.length
      · have h4 : F + 1 < r.length + 1 := by omega
        have h5 : ((F : Int) == -1) = false := by rw [beq_eq_false_iff_ne]; omega
        simp only [h3, h4, if_true, h5, Bool.false_eq_true, if_false]
        omega
      · have h4 : ¬ F + 1 < r.length + 1 := by omega
        simp only [h3, h4, if_false]
        rfl
theorem index_fq (s : ByteArray) (a : Nat) (h : a ≤ s.size) : Lib.indexByte (s.extract a s.size).data.toList 61 = if fq s a < s.size then ((fq s a - a : Nat) : Int) else -1 := by
  rw [index_fqL]
  have e : (s.extract a s.size).data.toList.map UInt8.toNat = (nums s).drop a := by
    have := nums_extract s a s.size
    unfold nums at this ⊢
    rw [this]
    rw [List.take_of_length_le (by simp)]
  have hl : (s.extract a s.size).data.toList.length = s.size - a := by
    have := congrArg List.length e
    rw [List.length_map, List.length_drop, nums_length] at this
    exact this
  rw [e, hl]
  unfold fq
  by_cases h3 : fqL ((nums s).drop a) < s.size - a
  · rw [if_pos h3, if_pos (by omega)]; congr 1; omega
  · rw [if_neg h3, if_neg (by omega)]

theorem index61_any (s : ByteArray) (a : Nat) (h : a ≤ s.size) (w : World) :
    Calls Try.prog 73 #[.string (s.extract a s.size), .int .u8 61] w fun e w' => e = .returned (.int .i64 (if fq s a < s.size then ((fq s a - a : Nat) : Int) else -1)) ∧ w = w' := by
  have hc := Any.strings_IndexByte Try.idxByte (s.extract a s.size) 61 w
  change Calls Try.prog 73 _ _ _ at hc
  rw [show (61 : Int).toNat.toUInt8 = 61 from rfl, index_fq s a h] at hc
  exact hc.mono fun e w' ⟨h1, h2⟩ => ⟨h1, h2.symm⟩

/-- the label whose text stands at place a, and where it ends -/
def shown (s : ByteArray) (a : Nat) : Option (Lab × Nat) :=
  if s.size ≤ fq s a then none else (unq s ((fq s a : Int) + 1)).map fun p => (⟨s.extract a (fq s a), strN p.1⟩, p.2)

theorem unqR_le {s : ByteArray} : ∀ {f i : Nat} {acc l : List Nat} {n : Nat}, unqR s f i acc = some (l, n) → i < n ∧ n ≤ s.size ∧ (∀ x ∈ l, x ∈ acc ∨ x < 256)
  | 0, i, acc, l, n, h => by rw [unqR] at h; cases h
  | f + 1, i, acc, l, n, h => by
    rw [unqR] at h
    split at h
    · cases h
    · rename_i h1
      split at h
      · injection h with h
        injection h with h2 h3
        subst h2 h3
        exact ⟨by omega, by omega, fun x hx => .inl hx⟩
      · split at h
        · cases h
        · rename_i h0
          obtain ⟨a1, a2, a3⟩ := unqR_le h
          refine ⟨by omega, a2, fun x hx => ?_⟩
          rcases a3 x hx with hx | hx
          · rcases List.mem_append.1 hx with hx | hx
            · exact .inl hx
            · rw [List.mem_singleton.1 hx]; exact .inr (uch_lt s i)
          · exact .inr hx
theorem unq_le {s : ByteArray} {a : Int} {l : List Nat} {n : Nat} (h : unq s a = some (l, n)) : a < n ∧ n ≤ s.size ∧ (∀ x ∈ l, x < 256) := by
  unfold unq at h
  split at h
  · cases h
  · split at h
    · cases h
    · obtain ⟨a1, a2, a3⟩ := unqR_le h
      refine ⟨by omega, a2, fun x hx => ?_⟩
      rcases a3 x hx with h | h
      · cases h
      · exact h

set_option maxRecDepth 100000 in
set_option maxHeartbeats 2000000 in
theorem shown_any (s : ByteArray) (a : Nat) (ha : a ≤ s.size) (hs : s.size ≤ 140737488351232) (w : World) :
    Calls Try.prog 69 #[.string s, .int .i64 (a : Int)] w fun e w' => (∃ X : Lab, ∃ N : Nat, e = .returned (.tuple #[X.val, .int .i64 (N : Int), .bool (shown s a).isSome]) ∧ ∀ x n, shown s a = some (x, n) → X = x ∧ N = n) ∧ Below w.heap.size w w' := by
  have h1 := fun W => index61_any s a ha W
  have hle := fq_le s a ha
  have hge : a ≤ fq s a := by unfold fq; omega
  by_cases h0 : fq s a < s.size
  · rw [if_pos h0] at h1
    obtain ⟨k, hk⟩ : ∃ k, k = fq s a := ⟨_, rfl⟩
    have hsh : shown s a = (unq s ((k : Int) + 1)).map fun p => (⟨s.extract a k, strN p.1⟩, p.2) := by unfold shown; rw [if_neg (by omega), ← hk]
    have h2 := fun W => unquote_any s ((k : Int) + 1) hs W
    rw [hsh]
    rw [← hk] at h1 hle hge h0
    generalize unq s ((k : Int) + 1) = U at *
    obtain ⟨d, rfl⟩ : ∃ d, k = a + d := ⟨k - a, by omega⟩
    rw [show a + d - a = d by omega] at h1
    rw [show (((a + d : Nat) : Int) + 1) = (a : Int) + (d : Int) + 1 by omega] at h2
    have H1 := Lib.hid h1
    have b1 : (a : Int) + (d : Int) < (s.size : Int) := by omega
    have b2 : (a : Int) ≤ (a : Int) + (d : Int) := by omega
    have b3 : ((a : Int) + (d : Int)).toNat = a + d := by omega
    clear h1 hk hsh hle hge h0
    cases U with
    | none =>
      simp only [oS, oN, oE] at h2
      have H2 := Lib.hid h2
      clear h2
      go_enter Try.func69, Try.ntmps69
      go_wp2_with (first
        | (go_at_call 73; ((with_reducible refine (H1.out _).mono ?_); rintro e w2 ⟨rfl, rfl⟩))
        | (go_at_call 33; ((with_reducible refine (H2.out _).mono ?_); rintro e w4 ⟨rfl, hb4⟩; obtain ⟨hc4, hf4⟩ := bcell hb4)))
      have c0 : w4.cell? ⟨w.heap.size, 0, none⟩ = some (.string ⟨#[]⟩) := by rw [hc4 _ _ (by simp)]; exact World.cell?_alloc_new _ _ _ _
      have c1 : w4.cell? ⟨w.heap.size, 1, none⟩ = some (.string ⟨#[]⟩) := by rw [hc4 _ _ (by simp)]; exact World.cell?_alloc_new _ _ _ _
      obtain ⟨r0, r1⟩ := two_set c0 c1 (.string (s.extract a (a + d))) (.string ByteArray.empty)
      exact bodyPost_ret (v := .tuple #[.agg #[.string (s.extract a (a + d)), .string ByteArray.empty], .int .i64 0, .bool false]) (by simp [results, Try.results69, go_sem, r0, r1]) rfl ⟨⟨⟨s.extract a (a + d), ByteArray.empty⟩, 0, rfl, fun x m h => by cases h⟩, ((le_below (below_alloc _ _) hb4).setCell (Nat.le_refl _) _).setCell (Nat.le_refl _) _⟩
    | some p =>
      obtain ⟨l, n⟩ := p
      simp only [oS, oN, oE] at h2
      have H2 := Lib.hid h2
      clear h2
      go_enter Try.func69, Try.ntmps69
      go_wp2_with (first
        | (go_at_call 73; ((with_reducible refine (H1.out _).mono ?_); rintro e w2 ⟨rfl, rfl⟩))
        | (go_at_call 33; ((with_reducible refine (H2.out _).mono ?_); rintro e w4 ⟨rfl, hb4⟩; obtain ⟨hc4, hf4⟩ := bcell hb4)))
      have c0 : w4.cell? ⟨w.heap.size, 0, none⟩ = some (.string ⟨#[]⟩) := by rw [hc4 _ _ (by simp)]; exact World.cell?_alloc_new _ _ _ _
      have c1 : w4.cell? ⟨w.heap.size, 1, none⟩ = some (.string ⟨#[]⟩) := by rw [hc4 _ _ (by simp)]; exact World.cell?_alloc_new _ _ _ _
      obtain ⟨r0, r1⟩ := two_set c0 c1 (.string (s.extract a (a + d))) (.string (strN l))
      exact bodyPost_ret (v := .tuple #[.agg #[.string (s.extract a (a + d)), .string (strN l)], .int .i64 (n : Int), .bool true]) (by simp [results, Try.results69, go_sem, r0, r1]) rfl ⟨⟨⟨s.extract a (a + d), (strN l)⟩, n, rfl, fun x m h => by (simp only [Option.map_some, Option.some.injEq, Prod.mk.injEq] at h; exact ⟨h.1, h.2⟩)⟩, ((le_below (below_alloc _ _) hb4).setCell (Nat.le_refl _) _).setCell (Nat.le_refl _) _⟩
  · rw [if_neg h0] at h1
    have hsh : shown s a = none := by unfold shown; rw [if_pos (by omega)]
    rw [hsh]
    have H1 := Lib.hid h1
    clear h1 hsh hle hge h0
    go_enter Try.func69, Try.ntmps69
    go_wp2_with (go_at_call 73; ((with_reducible refine (H1.out _).mono ?_); rintro e w2 ⟨rfl, rfl⟩))
    exact bodyPost_ret (v := .tuple #[.agg #[.string ⟨#[]⟩, .string ⟨#[]⟩], .int .i64 0, .bool false]) (by simp [results, Try.results69, go_sem]) rfl ⟨⟨⟨⟨#[]⟩, ⟨#[]⟩⟩, 0, rfl, fun x n h => by cases h⟩, below_alloc _ _⟩
end Go.Proofs.Ytlolhbhanjhkbaa.Lab
