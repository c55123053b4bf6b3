/-
  The law EncBurst: its walk. Own text.
-/
import Derived.Test.YtdedkhifnecgkaaDoorETurn
import Derived.Lib.QuietBelow
namespace Go.Proofs.YtdedkhifnecgkaaDoor.Enc
open Go.RowKit Go Go.Sort Go.Proofs.YtdedkhifnecgkaaDoor.Base

/-- a sealed text of which among 32 neighbouring bits at least one is turned isn't one -/
theorem seal_burst (s : ByteArray) (L : List Nat) (m a : Nat) (hl : L.length = s.size + 4) (h256 : ∀ x ∈ L, x < 256) (hm : m < 4294967296) (h0 : m ≠ 0) (hx : Poly.le L = Poly.le (nums (sealS s)) ^^^ m * 2 ^ a) :
    usE (strN L) = 22 ∧ usS (strN L) = ByteArray.empty := by
  have hz : (strN L).size = s.size + 4 := by rw [strN_size, hl]
  have hn : nums (strN L) = L := strN_nums L h256
  have ht : nums ((strN L).extract 0 s.size) = L.take s.size := by rw [nums_extract, hn, List.drop_zero, Nat.sub_zero]
  have hd : L.drop s.size = Poly.four (num (strN L) s.size) := by
    have hlen : (L.drop s.size).length = 4 := by rw [List.length_drop, hl]; omega
    have hat : ∀ i, i < 4 → (L.drop s.size)[i]? = some (at8 (strN L) (s.size + i)) := by
      intro i hi
      rw [List.getElem?_drop]
      unfold at8
      rw [hn, List.getD, List.getElem?_eq_getElem (by omega)]
      rfl
    unfold num
    rw [Poly.le_four _ _ _ _ (at8_lt _ _) (at8_lt _ _) (at8_lt _ _) (at8_lt _ _)]
    apply List.ext_getElem?
    intro i
    by_cases hi : i < 4
    · rw [hat i hi]
      match i, hi with
      | 0, _ => rfl
      | 1, _ => rfl
      | 2, _ => rfl
      | 3, _ => rfl
    · rw [List.getElem?_eq_none (by omega), List.getElem?_eq_none (by simp; omega)]
  have hne := Poly.burst_told (nums s) (L.take s.size) a m s.size (num (strN L) s.size) (by rw [List.length_take, hl]; omega) (num_lt _ _) (nums_length s) hm h0 (nums_lt s) (by
    rw [← hd, List.take_append_drop, hx]
    unfold sealS sumS
    rw [nums_append, strN_nums _ (Poly.four_lt _)])
  have e : usE (strN L) = 22 := by
    unfold usE
    rw [if_neg (by omega), hz, Nat.add_sub_cancel, ht, if_neg hne]
  refine ⟨e, ?_⟩
  unfold usS
  rw [if_neg (by omega)]

theorem take_drop_of (L M R : List Nat) (n : Nat) (h : M.length = n) (k : Nat) (hk : L.length = k) : ((L ++ (M ++ R)).drop k).take n = M := by
  subst h hk
  rw [List.drop_left, List.take_left]

/-- what a frame is put together of -/
theorem frame_parts (p : ByteArray) (h0 : 0 < p.size) (h1 : p.size ≤ 1048576) :
    (frS p).size = p.size + 9 ∧ nums ((frS p).extract 0 4) = Poly.four p.size ∧ (frS p).extract 4 (p.size + 8) = sealS p ∧ nums ((frS p).extract (p.size + 8) (p.size + 9)) = [1] := by
  have hn : nums (frS p) = Poly.four p.size ++ (nums (sealS p) ++ [1]) := by
    rw [(frS_good p (by omega) h1).2, nums_append, nums_append, strN_nums _ (Poly.four_lt _)]
    simp only [List.append_assoc]
    rfl
  have hz : (nums (sealS p)).length = p.size + 4 := by rw [nums_length, sealS_size]
  have hsz : (frS p).size = p.size + 9 := by
    rw [← nums_length, hn, List.length_append, List.length_append, hz, Poly.four_length]
    simp
    omega
  refine ⟨hsz, ?_, ?_, ?_⟩
  · rw [nums_extract, hn, List.drop_zero]
    exact List.take_left' rfl
  · apply nums_inj
    rw [nums_extract, hn, show p.size + 8 - 4 = p.size + 4 from by omega]
    exact take_drop_of _ _ _ _ hz _ (Poly.four_length _)
  · rw [nums_extract, hn, ← List.append_assoc, List.drop_left' (by rw [List.length_append, hz, Poly.four_length]; omega)]
    rw [show p.size + 9 - (p.size + 8) = 1 from by omega]
    rfl

theorem frame_burst (p : ByteArray) (L : List Nat) (m a : Nat) (h0 : 0 < p.size) (h1 : p.size ≤ 1048576) (hl : L.length = p.size + 4) (h256 : ∀ x ∈ L, x < 256) (hm : m < 4294967296) (hm0 : m ≠ 0) (hx : Poly.le L = Poly.le (nums (sealS p)) ^^^ m * 2 ^ a) :
    num ((frS p).extract 0 4 ++ strN L ++ (frS p).extract (p.size + 8) (p.size + 9)) 0 = p.size ∧ Fr ((frS p).extract 0 4 ++ strN L ++ (frS p).extract (p.size + 8) (p.size + 9)) 0 p.size ByteArray.empty 0 22 ∧
    ((frS p).extract 0 4 ++ strN L ++ (frS p).extract (p.size + 8) (p.size + 9)).size = p.size + 9 := by
  obtain ⟨z, f1, _, f3⟩ := frame_parts p h0 h1
  obtain ⟨s1, s2⟩ := seal_burst p L m a hl h256 hm hm0 hx
  generalize hF : (frS p).extract 0 4 ++ strN L ++ (frS p).extract (p.size + 8) (p.size + 9) = F
  have hP : Piece F 0 (Poly.four p.size ++ (L ++ [1])) [] := by
    refine ⟨Nat.zero_le _, ?_⟩
    rw [List.drop_zero, List.append_nil, ← hF, nums_append, nums_append, f1, f3, strN_nums L h256, List.append_assoc]
  have hsz := hP.size
  simp only [List.length_append, Poly.four_length, hl, List.length_singleton, List.length_nil] at hsz
  have n1 := num_back F 0 p.size _ (by omega) hP.first
  have a1 := hP.next.next.at 0 (by decide)
  rw [Poly.four_length, hl, Nat.add_zero] at a1
  have c1 := hP.next.first.cut
  rw [Poly.four_length, hl] at c1
  have c2 : F.extract (0 + 4) (0 + p.size + 8) = strN L := by
    apply nums_inj
    rw [strN_nums L h256, ← c1]
    congr 2
    omega
  have hu := (inner_us F 0 p.size (by omega)).1
  rw [c2, s1] at hu
  refine ⟨n1, ?_, by omega⟩
  refine Fr.sum h0 h1 (by omega) (by rw [show 0 + p.size + 8 = 0 + 4 + (p.size + 4) from by omega, a1]; rfl) ?_
  intro he
  rw [if_pos he] at hu
  cases hu

end Go.Proofs.YtdedkhifnecgkaaDoor.Enc
