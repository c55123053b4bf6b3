/-
  What is written one behind the other is read again: plain facts. Own text.
-/
import Derived.Test.YtdedkhifnecgkaaDoorEWakes
namespace Go.Proofs.YtdedkhifnecgkaaDoor.Enc
open Go.RowKit Go Go.Proofs.YtdedkhifnecgkaaDoor.Base

/-- from place b on stand the bytes L, then R -/
def Piece (s : ByteArray) (b : Nat) (L R : List Nat) : Prop := b ≤ s.size ∧ (nums s).drop b = L ++ R

theorem Piece.size {s : ByteArray} {b : Nat} {L R : List Nat} (h : Piece s b L R) : b + L.length + R.length = s.size := by
  have h2 := congrArg List.length h.2
  rw [List.length_drop, nums_length, List.length_append] at h2
  have := h.1
  omega
theorem Piece.at {s : ByteArray} {b : Nat} {L R : List Nat} (h : Piece s b L R) (i : Nat) (hi : i < L.length) : at8 s (b + i) = L.getD i 0 := by
  unfold at8
  rw [List.getD, List.getD, ← List.getElem?_drop, h.2, List.getElem?_append_left hi]
theorem Piece.next {s : ByteArray} {b : Nat} {L M R : List Nat} (h : Piece s b (L ++ M) R) : Piece s (b + L.length) M R := by
  have hz := h.size
  rw [List.length_append] at hz
  refine ⟨by omega, ?_⟩
  rw [← List.drop_drop, h.2, List.append_assoc, List.drop_left]
theorem Piece.first {s : ByteArray} {b : Nat} {L M R : List Nat} (h : Piece s b (L ++ M) R) : Piece s b L (M ++ R) := ⟨h.1, by rw [h.2, List.append_assoc]⟩
theorem Piece.rest {s : ByteArray} {b : Nat} {L R : List Nat} (h : Piece s b L R) : Piece s (b + L.length) R [] :=
  Piece.next (M := R) (R := []) ⟨h.1, by rw [h.2, List.append_nil]⟩
theorem Piece.cut {s : ByteArray} {b : Nat} {L R : List Nat} (h : Piece s b L R) : nums (s.extract b (b + L.length)) = L := by
  rw [nums_extract, h.2, Nat.add_sub_cancel_left, List.take_left]

theorem lead_one (s : ByteArray) (f b k : Nat) (hk : k ≤ f) (hb : b + k < s.size) (h : ∀ i, i < k → 128 ≤ at8 s (b + i)) (hl : at8 s (b + k) < 128) : lead s f b = k := by
  induction f generalizing b k with
  | zero => simp [lead]; omega
  | succ f ih =>
    unfold lead
    cases k with
    | zero =>
      rw [Nat.add_zero] at hl
      rw [if_neg (by omega)]
    | succ k =>
      have h0 := h 0 (by omega)
      rw [Nat.add_zero] at h0
      rw [if_pos ⟨by omega, h0⟩, ih (b + 1) k (by omega) (by omega) (fun i hi => by
        have := h (i + 1) (by omega)
        rwa [show b + (i + 1) = b + 1 + i from by omega] at this) (by rwa [show b + (k + 1) = b + 1 + k from by omega] at hl)]

theorem uint_back (s : ByteArray) (b v : Nat) (R : List Nat) (hv : v < 18446744073709551616) (h : Piece s b (Var.vl 9 v) R) :
    rdE s (b : Int) = 0 ∧ rdV s (b : Int) = v ∧ rdN s (b : Int) = b + (Var.vl 9 v).length := by
  have hsz := h.size
  obtain ⟨l1, l2⟩ := Var.vl_length 9 v
  obtain ⟨hg, hval⟩ := Var.vl_good 9 v (Nat.lt_of_lt_of_le hv (by decide)) (at8 s) b (fun i hi => h.at i hi)
  have hk : kk s (b : Int) = (Var.vl 9 v).length - 1 := lead_one s 9 b _ (by omega) (by omega) (fun i hi => (hg.more i hi).1) hg.last
  have h9 : (Var.vl 9 v).length - 1 = 9 → at8 s (b + ((Var.vl 9 v).length - 1)) ≤ 1 := by
    intro h9
    have hlast := hg.last
    rw [show (Var.vl 9 v).length = 9 + 1 from by omega, Var.val] at hval
    rw [h9] at hlast ⊢
    rw [Nat.mod_eq_of_lt hlast] at hval
    rcases Nat.lt_or_ge 1 (at8 s (b + 9)) with hgt | hle
    · have : 2 * 128 ^ 9 ≤ at8 s (b + 9) * 128 ^ 9 := Nat.mul_le_mul_right _ hgt
      omega
    · exact hle
  have hR := reads_of s b (by omega)
  rw [hk] at hR
  have h0 := hg.none
  have h128 := hg.last
  generalize hlen : (Var.vl 9 v).length - 1 = k at *
  rw [show (Var.vl 9 v).length = k + 1 from by omega] at hval ⊢
  generalize rdV s b = v' at *
  generalize rdN s b = n' at *
  generalize rdE s b = e' at *
  cases hR with
  | short _ => omega
  | bad _ _ => omega
  | good _ _ _ _ => exact ⟨rfl, hval, by omega⟩

theorem text_back (s : ByteArray) (b : Nat) (t : ByteArray) (R : List Nat) (ht : t.size ≤ 1048576) (h : Piece s b (Var.vl 9 t.size ++ nums t) R) :
    txE s (b : Int) = 0 ∧ txS s (b : Int) = t ∧ txN s (b : Int) = b + (Var.vl 9 t.size).length + t.size := by
  have hsz := h.size
  rw [List.length_append, nums_length] at hsz
  obtain ⟨e1, e2, e3⟩ := uint_back s b t.size (nums t ++ R) (by omega) h.first
  have hE : txE s (b : Int) = 0 := by unfold txE; rw [if_neg (by omega), if_neg (by omega)]
  refine ⟨hE, ?_, ?_⟩
  · unfold txS
    rw [if_pos hE, e2, e3]
    apply nums_inj
    have := h.next.cut
    rwa [nums_length] at this
  · unfold txN
    rw [if_pos hE, e2, e3]

theorem num_back (s : ByteArray) (b v : Nat) (R : List Nat) (hv : v < 4294967296) (h : Piece s b (Poly.four v) R) : num s b = v := by
  have h0 := h.at 0 (by rw [Poly.four_length]; decide)
  have h1 := h.at 1 (by rw [Poly.four_length]; decide)
  have h2 := h.at 2 (by rw [Poly.four_length]; decide)
  have h3 := h.at 3 (by rw [Poly.four_length]; decide)
  unfold num
  rw [show b = b + 0 from rfl, h0, h1, h2, h3]
  exact Poly.num4_four v hv

theorem frame_back (s : ByteArray) (b : Nat) (p : ByteArray) (R : List Nat) (h0 : 0 < p.size) (h1 : p.size ≤ 1048576) (h : Piece s b (Poly.four p.size ++ (nums p ++ (Poly.four (Poly.crc (nums p)) ++ [1]))) R) :
    num s b = p.size ∧ Fr s b p.size p (b + p.size + 9) 0 := by
  have hsz := h.size
  simp only [List.length_append, nums_length, Poly.four_length, List.length_singleton] at hsz
  have n1 := num_back s b p.size _ (by omega) h.first
  have c1 := h.next.first.cut
  rw [Poly.four_length, nums_length] at c1
  have c2 := nums_inj c1
  have n2 := num_back s _ _ _ (crc_lt p) h.next.next.first
  rw [Poly.four_length, nums_length] at n2
  have a1 := h.next.next.next.at 0 (by decide)
  rw [Poly.four_length, nums_length, Poly.four_length, Nat.add_zero] at a1
  refine ⟨n1, ?_⟩
  have hg := Fr.good (s := s) (a := b) (N := p.size) h0 h1 (by omega) (by rw [show b + p.size + 8 = b + 4 + p.size + 4 from by omega, a1]; rfl) (by rw [n2, c2])
  rwa [c2] at hg

theorem seal_back (s : ByteArray) : usE (sealS s) = 0 ∧ usS (sealS s) = s := by
  have hz := sealS_size s
  have hP : Piece (sealS s) 0 (nums s ++ Poly.four (Poly.crc (nums s))) [] := by
    refine ⟨Nat.zero_le _, ?_⟩
    rw [List.drop_zero, List.append_nil]
    unfold sealS sumS
    rw [nums_append, strN_nums _ (Poly.four_lt _)]
  have n2 := num_back (sealS s) _ _ _ (crc_lt s) hP.next
  have c1 := hP.first.cut
  rw [nums_length, Nat.zero_add] at n2 c1
  have c2 := nums_inj c1
  have e : usE (sealS s) = 0 := by
    unfold usE
    rw [if_neg (by omega), hz, Nat.add_sub_cancel, c2, n2, if_pos rfl]
  refine ⟨e, ?_⟩
  unfold usS
  rw [if_pos e, hz, Nat.add_sub_cancel, c2]

end Go.Proofs.YtdedkhifnecgkaaDoor.Enc
