/-
  The quoted form of a text: contracts of isPrintable, Quote. Own text.
-/
import Derived.Test.YtcpkogboaniehaaLMake
import Derived.Test.YtcpkogboaniehaaDRow
import Derived.Deep.RegionLaw
namespace Go.Proofs.Ytcpkogboaniehaa.Lab
open Go.RowKit Go Go.Proofs.Ytcpkogboaniehaa.Base Go.Shelf Go.Sort

def prB (c : Nat) : Bool := decide (32 ≤ c) && decide (c ≤ 126)
/-- a digit to the base 16 -/
def hexd (k : Nat) : Nat := if k < 10 then 48 + k else 87 + k
/-- the quoted form of a byte -/
def qb (b : Nat) : List Nat := if prB b = false then [92, 120, hexd (b / 16), hexd (b % 16)] else if b = 34 ∨ b = 92 then [92, b] else [b]
def quoteN (l : List Nat) : List Nat := 34 :: (l.flatMap qb ++ [34])
def quoteS (s : ByteArray) : ByteArray := strN (quoteN (nums s))
theorem qb_length (b : Nat) : 1 ≤ (qb b).length ∧ (qb b).length ≤ 4 := by
  unfold qb; split; exact ⟨by simp, by simp⟩; split <;> exact ⟨by simp, by simp⟩
theorem flat_length (l : List Nat) : (l.flatMap qb).length ≤ 4 * l.length := by
  induction l with
  | nil => simp
  | cons x l ih => rw [List.flatMap_cons, List.length_append, List.length_cons]; have := qb_length x; omega

/-- bytes in a row of the call's own -/
structure Bytes8 (w wr : World) (v : Value) (l : List Nat) : Prop where
  below : Below w.heap.size w wr
  row : wr.ownsRow 0 5 1 v l.length (u8s l)
  new : ∀ k, v.ownBlock = some k → w.heap.size ≤ k

theorem Bytes8.append {w wr : World} {v : Value} {l : List Nat} (h : Bytes8 w wr v l) (cs : Array Value) (m : List Nat) (hcs : cs = (u8s m).toArray) (hl : l.length + m.length ≤ 140737488351232) :
    ∃ ao cap w', (Builtin.append_ #[85, 85] 85 #[v, .slice (some ⟨wr.heap.size, 0, none⟩) m.length m.length]).run Try.prog (wr.alloc (.cells cs 5)) = .ok (.slice ao (l.length + m.length) cap) w' ∧ Bytes8 w w' (.slice ao (l.length + m.length) cap) (l ++ m) := by
  subst hcs
  obtain ⟨i0, hi, hz0, hz1, hz2⟩ := info_parts info8
  have hsrc : Src Try.prog 1 85 (.slice (some ⟨wr.heap.size, 0, none⟩) m.length m.length) m.length (u8s m) (wr.alloc (.cells (u8s m).toArray 5)) := by
    refine Src.ofSlice _ Try.underlying85 _ m.length m.length _ (by rw [u8s_length]; omega) ?_ ?_
    · intro j u hu
      rw [Go.WideShapes.add_plain, Nat.zero_add]
      exact cell_new rfl (by simpa using hu)
    · intro u hu
      unfold u8s at hu
      obtain ⟨x, _, rfl⟩ := List.mem_map.1 hu
      rfl
  obtain ⟨v', w', h1, h2, h3, h4⟩ := Row.append_src (P := Try.prog) (wr.alloc (.cells (u8s m).toArray 5)) 85 85 85 5 i0 _ 1 1 Try.underlying85 hi hz0 hz1 hz2 rfl (by decide) v l.length _ (h.row.alloc _) _ m.length _ hsrc (by unfold maxLen; omega) (by omega)
  have hb : Below w.heap.size w w' := (h.below.alloc h.below.size _).grown h3 (by simp; have := h.below.size; omega) h.new
  have hnew : ∀ k, v'.ownBlock = some k → w.heap.size ≤ k := fun k hk => by
    rcases h4 with e | e
    · exact h.new k (by rw [← e]; exact hk)
    · rw [hk] at e
      injection e with e
      have := h.below.size
      rw [World.size_alloc] at e
      omega
  rw [← u8s_append] at h2
  have h2' : w'.ownsRow 0 5 1 v' (l ++ m).length (u8s (l ++ m)) := by rw [List.length_append]; exact h2
  rcases h2'.2 with ⟨e, h0⟩ | ⟨g, cap, cur, e, h5⟩
  · have hz : l.length + m.length = 0 := by rw [List.length_append] at h0; exact h0
    subst e
    exact ⟨none, 0, w', by rw [hz]; exact h1, hb, by rw [hz]; exact h2', by rw [hz]; exact hnew⟩
  · rw [List.length_append] at e
    subst e
    exact ⟨_, cap, w', h1, hb, h2', hnew⟩


theorem Bytes8.len {w wr : World} {v : Value} {l : List Nat} (h : Bytes8 w wr v l) : ∃ ao cap, v = .slice ao l.length cap := by
  rcases h.row.2 with ⟨e, h0⟩ | ⟨g, cap, cur, e, h5⟩
  · exact ⟨none, 0, by rw [e, h0]⟩
  · exact ⟨_, _, e⟩
theorem Bytes8.nil (w : World) : Bytes8 w w (.slice none 0 0) [] := ⟨Below.refl _ _, World.ownsRow_nil _ _ _ _, fun k hk => by cases hk⟩
theorem Bytes8.first (w : World) (cs : Array Value) (m : List Nat) (hcs : cs = (u8s m).toArray) (hm : m.length ≤ 1024) : Bytes8 w (w.alloc (.cells cs 5)) (.slice (some ⟨w.heap.size, 0, none⟩) m.length m.length) m := by
  subst hcs
  refine ⟨below_alloc _ _, ⟨by rw [u8s_length]; omega, .inr ⟨w.heap.size, m.length, (u8s m).toArray, rfl, Nat.zero_le _, heap_alloc_new _ _, Nat.le_refl _, by unfold maxLen; omega, by simp [u8s_length], ?_⟩⟩, fun k hk => by (simp only [Value.ownBlock, Option.some.injEq] at hk; omega)⟩
  rw [List.take_of_length_le (by simp [u8s_length])]
theorem Bytes8.text {w wr : World} {v : Value} {l : List Nat} (h : Bytes8 w wr v l) : (convert 85 9 v).run Try.prog wr = .ok (.string (strN l)) wr := conv_own h.row
theorem Bytes8.drewN {w wr : World} {v : Value} {l : List Nat} (h : Bytes8 w wr v l) (n : Nat) : Bytes8 w (wr.drewN n) v l := ⟨below_drewN h.below n, ⟨h.row.1, h.row.2⟩, h.new⟩

abbrev hexLit : ByteArray := ⟨#[48, 49, 50, 51, 52, 53, 54, 55, 56, 57, 97, 98, 99, 100, 101, 102]⟩
theorem hexLit_at (c : Nat) (h : c < 16) : (hexLit[c]'h).toNat = hexd c := by
  have : ∀ c : Fin 16, (hexLit[c.1]'c.2).toNat = hexd c.1 := by decide
  exact this ⟨c, h⟩

theorem flat_take (l : List Nat) (k : Nat) (h : k < l.length) : (l.take (k + 1)).flatMap qb = (l.take k).flatMap qb ++ qb (l.getD k 0) := by
  rw [List.take_succ_eq_append_getElem h, List.flatMap_append]
  simp [List.getD, List.getElem?_eq_getElem h]

end Go.Proofs.Ytcpkogboaniehaa.Lab
