/-
  What is written one behind the other is read again: plain facts. Own text.
-/
import Derived.Test.YtcpkogboaniehaaMText
namespace Go.Proofs.Ytcpkogboaniehaa.Enc
open Go.RowKit Go Go.Proofs.Ytcpkogboaniehaa.Base

/-- from place b on stand the bytes L, then R -/
def Piece (s : ByteArray) (b : Nat) (L R : List Nat) : Prop := b ≤ s.size ∧ (nums s).drop b = L ++ R

theorem Piece.size {s : ByteArray} {b : Nat} {L R : List Nat} (h : Piece s b L R) : b + L.length + R.length = s.size := by
  have h2 := congrArg List.length h.2
  rw [List.length_drop, nums_length, List.length_append] at h2
  have := h.1
  omega
theorem Piece.at {s : ByteArray} {b : Nat} {L R : List Nat} (h : Piece s b L R) (i : Nat) (hi : i < L.length) : at8 s (b + i) = L.getD i 0 := by
  unfold at8
  rw [List.getD, List.getD, ← List.getElem?_drop, h.2, List.getElem?_append_left hi]
theorem Piece.next {s : ByteArray} {b : Nat} {L M R : List Nat} (h : Piece s b (L ++ M) R) : Piece s (b + L.length) M R := by
  have hz := h.size
  rw [List.length_append] at hz
  refine ⟨by omega, ?_⟩
  rw [← List.drop_drop, h.2, List.append_assoc, List.drop_left]
theorem Piece.first {s : ByteArray} {b : Nat} {L M R : List Nat} (h : Piece s b (L ++ M) R) : Piece s b L (M ++ R) := ⟨h.1, by rw [h.2, List.append_assoc]⟩
theorem Piece.rest {s : ByteArray} {b : Nat} {L R : List Nat} (h : Piece s b L R) : Piece s (b + L.length) R [] :=
  Piece.next (M := R) (R := []) ⟨h.1, by rw [h.2, List.append_nil]⟩
theorem Piece.cut {s : ByteArray} {b : Nat} {L R : List Nat} (h : Piece s b L R) : nums (s.extract b (b + L.length)) = L := by
  rw [nums_extract, h.2, Nat.add_sub_cancel_left, List.take_left]

theorem lead_one (s : ByteArray) (f b k : Nat) (hk : k ≤ f) (hb : b + k < s.size) (h : ∀ i, i < k → 128 ≤ at8 s (b + i)) (hl : at8 s (b + k) < 128) : lead s f b = k := by
  induction f generalizing b k with
  | zero => simp [lead]; omega
  | succ f ih =>
    unfold lead
    cases k with
    | zero =>
      rw [Nat.add_zero] at hl
      rw [if_neg (by omega)]
    | succ k =>
      have h0 := h 0 (by omega)
      rw [Nat.add_zero] at h0
      rw [if_pos ⟨by omega, h0⟩, ih (b + 1) k (by omega) (by omega) (fun i hi => by
        have := h (i + 1) (by omega)
        rwa [show b + (i + 1) = b + 1 + i from by omega] at this) (by rwa [show b + (k + 1) = b + 1 + k from by omega] at hl)]

theorem uint_back (s : ByteArray) (b v : Nat) (R : List Nat) (hv : v < 18446744073709551616) (h : Piece s b (Var.vl 9 v) R) :
    rdE s (b : Int) = 0 ∧ rdV s (b : Int) = v ∧ rdN s (b : Int) = b + (Var.vl 9 v).length := by
  have hsz := h.size
  obtain ⟨l1, l2⟩ := Var.vl_length 9 v
  obtain ⟨hg, hval⟩ := Var.vl_good 9 v (Nat.lt_of_lt_of_le hv (by decide)) (at8 s) b (fun i hi => h.at i hi)
  have hk : kk s (b : Int) = (Var.vl 9 v).length - 1 := lead_one s 9 b _ (by omega) (by omega) (fun i hi => (hg.more i hi).1) hg.last
  have h9 : (Var.vl 9 v).length - 1 = 9 → at8 s (b + ((Var.vl 9 v).length - 1)) ≤ 1 := by
    intro h9
    have hlast := hg.last
    rw [show (Var.vl 9 v).length = 9 + 1 from by omega, Var.val] at hval
    rw [h9] at hlast ⊢
    rw [Nat.mod_eq_of_lt hlast] at hval
    rcases Nat.lt_or_ge 1 (at8 s (b + 9)) with hgt | hle
    · have : 2 * 128 ^ 9 ≤ at8 s (b + 9) * 128 ^ 9 := Nat.mul_le_mul_right _ hgt
      omega
    · exact hle
  have hR := reads_of s b (by omega)
  rw [hk] at hR
  have h0 := hg.none
  have h128 := hg.last
  generalize hlen : (Var.vl 9 v).length - 1 = k at *
  rw [show (Var.vl 9 v).length = k + 1 from by omega] at hval ⊢
  generalize rdV s b = v' at *
  generalize rdN s b = n' at *
  generalize rdE s b = e' at *
  cases hR with
  | short _ => omega
  | bad _ _ => omega
  | good _ _ _ _ => exact ⟨rfl, hval, by omega⟩

theorem text_back (s : ByteArray) (b : Nat) (t : ByteArray) (R : List Nat) (ht : t.size ≤ 1048576) (h : Piece s b (Var.vl 9 t.size ++ nums t) R) :
    txE s (b : Int) = 0 ∧ txS s (b : Int) = t ∧ txN s (b : Int) = b + (Var.vl 9 t.size).length + t.size := by
  have hsz := h.size
  rw [List.length_append, nums_length] at hsz
  obtain ⟨e1, e2, e3⟩ := uint_back s b t.size (nums t ++ R) (by omega) h.first
  have hE : txE s (b : Int) = 0 := by unfold txE; rw [if_neg (by omega), if_neg (by omega)]
  refine ⟨hE, ?_, ?_⟩
  · unfold txS
    rw [if_pos hE, e2, e3]
    apply nums_inj
    have := h.next.cut
    rwa [nums_length] at this
  · unfold txN
    rw [if_pos hE, e2, e3]

theorem nums_cut (s : ByteArray) (b k : Nat) (h : b + k ≤ s.size) : ((nums s).drop b).take k = (List.range k).map fun i => at8 s (b + i) := by
  apply List.ext_getElem?
  intro i
  rw [List.getElem?_take, List.getElem?_map]
  by_cases hi : i < k
  · rw [if_pos hi, List.getElem?_drop, List.getElem?_range hi, Option.map_some, nums_at s (b + i) (by omega), at8_eq s (b + i) (by omega)]
  · rw [if_neg hi, List.getElem?_eq_none (by simp; omega)]
    rfl

/-- bytes that are read as a number are the one form of it -/
theorem one_form (s : ByteArray) (b : Nat) (hb : b < s.size) (h : rdE s (b : Int) = 0) : b < rdN s (b : Int) ∧ rdN s (b : Int) ≤ s.size ∧ s.extract b (rdN s (b : Int)) = uintS (rdV s (b : Int)) := by
  obtain ⟨h1, h2, h3⟩ := kk_spec s b hb
  have hR := reads_of s b hb
  generalize kk s b = k at *
  generalize rdV s b = v at *
  generalize rdN s b = n at *
  generalize rdE s b = e at *
  cases hR with
  | short _ => cases h
  | bad _ _ => cases h
  | good c1 c2 c3 c4 =>
    refine ⟨by omega, by omega, ?_⟩
    have hg : Var.Good (at8 s) b k := ⟨fun i hi => ⟨h3 i hi, at8_lt _ _⟩, c2, c4⟩
    unfold uintS
    rw [Var.vl_val 9 (at8 s) b k h1 hg, ← nums_cut s b (k + 1) (by omega)]
    rw [← nums_strN (s.extract b (b + k + 1)), nums_extract, show b + k + 1 - b = k + 1 from by omega]


/-- the bytes from place a up to place b -/
def seg (s : ByteArray) (a b : Nat) : List Nat := ((nums s).drop a).take (b - a)
theorem seg_extract (s : ByteArray) (a b : Nat) : nums (s.extract a b) = seg s a b := nums_extract s a b
theorem seg_append (s : ByteArray) {a b c : Nat} (h1 : a ≤ b) (h2 : b ≤ c) : seg s a b ++ seg s b c = seg s a c := by
  unfold seg
  obtain ⟨d, rfl⟩ : ∃ d, b = a + d := ⟨b - a, by omega⟩
  obtain ⟨e, rfl⟩ : ∃ e, c = a + d + e := ⟨c - (a + d), by omega⟩
  rw [show a + d - a = d by omega, show a + d + e - (a + d) = e by omega, show a + d + e - a = d + e by omega, ← List.drop_drop, ← List.take_add]
theorem seg_map (s : ByteArray) (a k : Nat) (h : a + k ≤ s.size) : seg s a (a + k) = (List.range k).map fun i => at8 s (a + i) := by
  unfold seg
  rw [show a + k - a = k by omega, nums_cut s a k h]
theorem seg_all (s : ByteArray) : seg s 0 s.size = nums s := by
  unfold seg
  rw [List.drop_zero, List.take_of_length_le (by rw [nums_length]; omega)]
theorem seg_length (s : ByteArray) (a b : Nat) (h : b ≤ s.size) : (seg s a b).length = b - a := by
  unfold seg
  rw [List.length_take, List.length_drop, nums_length]
  omega

/-- a text that is read is the one form of it -/
theorem text_one (s : ByteArray) (b : Nat) (h : txE s (b : Int) = 0) : b < txN s (b : Int) ∧ txN s (b : Int) ≤ s.size ∧ seg s b (txN s (b : Int)) = nums (textS (txS s (b : Int))) := by
  have hE : rdE s (b : Int) = 0 := by
    unfold txE at h
    split at h
    · rename_i h1; exact absurd h h1
    · rename_i h1; omega
  have hV : ¬ s.size - rdN s (b : Int) < rdV s (b : Int) := by
    unfold txE at h
    rw [if_neg (by omega)] at h
    split at h
    · cases h
    · rename_i h1; exact h1
  have hb : b < s.size := by
    rcases Nat.lt_or_ge b s.size with h1 | h1
    · exact h1
    · rw [rdE_out s (b : Int) (.inr (by omega))] at hE; cases hE
  obtain ⟨f1, f2, f3⟩ := one_form s b hb hE
  have hN : txN s (b : Int) = rdN s (b : Int) + rdV s (b : Int) := by unfold txN; rw [if_pos h]
  have hS : txS s (b : Int) = s.extract (rdN s (b : Int)) (rdN s (b : Int) + rdV s (b : Int)) := by unfold txS; rw [if_pos h]
  have hz : (txS s (b : Int)).size = rdV s (b : Int) := by rw [hS, ByteArray.size_extract]; omega
  refine ⟨by omega, by omega, ?_⟩
  unfold textS
  rw [nums_append, hz, ← f3, seg_extract, hS, seg_extract, hN, seg_append s (by omega) (by omega)]

end Go.Proofs.Ytcpkogboaniehaa.Enc
