/-
  The law EncBack: its walk. Own text.
-/
import Derived.Test.YtdedkhifnecgkaaDoorEPiece
namespace Go.Proofs.YtdedkhifnecgkaaDoor.Enc
open Go.RowKit Go Go.Proofs.YtdedkhifnecgkaaDoor.Base

/-- a number, a number with a sign, a text and a frame, one behind the other -/
def rowS (u : Nat) (i : Int) (t p : ByteArray) : ByteArray := uintS u ++ uintS (zz i) ++ textS t ++ frS p

theorem nums_uintS (v : Nat) (hv : v < 18446744073709551616) : nums (uintS v) = Var.vl 9 v :=
  strN_nums _ (Var.vl_lt 9 v (Nat.lt_of_lt_of_le hv (by decide)))

theorem frS_nums (p : ByteArray) (h0 : 0 < p.size) (h1 : p.size ≤ 1048576) : nums (frS p) = Poly.four p.size ++ (nums p ++ (Poly.four (Poly.crc (nums p)) ++ [1])) := by
  rw [(frS_good p (by omega) h1).2]
  unfold sealS sumS
  rw [nums_append, nums_append, nums_append, strN_nums _ (Poly.four_lt _), strN_nums _ (Poly.four_lt _)]
  simp only [List.append_assoc]
  rfl

theorem rowS_piece (u : Nat) (i : Int) (t p : ByteArray) (hu : u < 18446744073709551616) (hi : zz i < 18446744073709551616) (ht : t.size ≤ 1048576) (h0 : 0 < p.size) (h1 : p.size ≤ 1048576) :
    Piece (rowS u i t p) 0 (Var.vl 9 u ++ (Var.vl 9 (zz i) ++ ((Var.vl 9 t.size ++ nums t) ++ (Poly.four p.size ++ (nums p ++ (Poly.four (Poly.crc (nums p)) ++ [1])))))) [] := by
  refine ⟨Nat.zero_le _, ?_⟩
  rw [List.drop_zero, List.append_nil]
  unfold rowS textS
  rw [nums_append, nums_append, nums_append, nums_append, nums_uintS u hu, nums_uintS _ hi, nums_uintS _ (by omega), frS_nums p h0 h1]
  simp only [List.append_assoc]

/-- all that the walk needs of it -/
theorem row_back (u : Nat) (i : Int) (t p : ByteArray) (hu : u < 18446744073709551616) (hi : zz i < 18446744073709551616) (ht : t.size ≤ 1048576) (h0 : 0 < p.size) (h1 : p.size ≤ 1048576) :
    ∃ n1 n2 n3 : Nat,
      (rdE (rowS u i t p) 0 = 0 ∧ rdV (rowS u i t p) 0 = u ∧ rdN (rowS u i t p) 0 = n1) ∧
      (rdE (rowS u i t p) (n1 : Int) = 0 ∧ rdV (rowS u i t p) (n1 : Int) = zz i ∧ rdN (rowS u i t p) (n1 : Int) = n2) ∧
      (txE (rowS u i t p) (n2 : Int) = 0 ∧ txS (rowS u i t p) (n2 : Int) = t ∧ txN (rowS u i t p) (n2 : Int) = n3) ∧
      (num (rowS u i t p) n3 = p.size ∧ Fr (rowS u i t p) n3 p.size p (rowS u i t p).size 0 ∧ n3 + 4 ≤ (rowS u i t p).size) := by
  have hP := rowS_piece u i t p hu hi ht h0 h1
  have a1 := uint_back _ 0 u _ hu hP.first
  have P2 := hP.next
  have a2 := uint_back _ _ (zz i) _ hi P2.first
  have P3 := P2.next
  have a3 := text_back _ _ t _ ht P3.first
  have P4 := P3.next
  have a4 := frame_back _ _ p _ h0 h1 P4
  have hz := P4.size
  simp only [List.length_append, nums_length, Poly.four_length, List.length_singleton, List.length_nil] at hz a4
  refine ⟨_, _, _, ⟨a1.1, a1.2.1, a1.2.2⟩, ⟨a2.1, a2.2.1, a2.2.2⟩, ⟨a3.1, a3.2.1, a3.2.2⟩, ?_⟩
  rw [show 0 + (Var.vl 9 u).length + (Var.vl 9 (zz i)).length + (Var.vl 9 t.size).length + t.size = 0 + (Var.vl 9 u).length + (Var.vl 9 (zz i)).length + ((Var.vl 9 t.size).length + t.size) from by omega]
  refine ⟨a4.1, ?_, by omega⟩
  have h2 := a4.2
  rwa [show 0 + (Var.vl 9 u).length + (Var.vl 9 (zz i)).length + ((Var.vl 9 t.size).length + t.size) + p.size + 9 = (rowS u i t p).size from by omega] at h2

theorem cut_size (t : ByteArray) (m : Nat) : (t.extract 0 m).size ≤ m := by rw [ByteArray.size_extract]; omega

set_option maxHeartbeats 2000000 in
set_option maxRecDepth 100000 in
theorem back_walk (u : Nat) (i : Int) (T : ByteArray) (w : World) (hu : u < 18446744073709551616) (i1 : -9223372036854775808 ≤ i) (i2 : i ≤ 9223372036854775807) (hT0 : T.size ≤ 140737488351232) (hT : Tab w) :
    Calls Tryd.prog 9 #[.int .u64 (u : Int), .int .i64 i, .string T] w fun e w' => e = .returned (.bool true) ∧ Below w.heap.size w w' := by
  have H3 := Lib.hid wakes_any
  have HT := Lib.hid hT
  clear hT
  go_enter Tryd.func9, Tryd.ntmps9
  go_upto_region 3 with ((go_at_call 14; refine (H3.out _ HT.out).mono ?_; rintro e w1 ⟨rfl, h1⟩))
  go_cut [2] (fun v wx => ∃ t : ByteArray, v = .string t ∧ t.size ≤ 1000 ∧ wx = w1)
  case first =>
    go_wp2_with fail
    all_goals
      go_meet
      refine ⟨_, rfl, ?_, rfl⟩
      first
        | omega
        | (rw [ByteArray.size_extract]; omega)
  case rest =>
    obtain ⟨t, rfl, hts, rfl⟩ := hcut
    obtain ⟨p, hp⟩ : ∃ p, t ++ (⟨#[120]⟩ : ByteArray) = p := ⟨_, rfl⟩
    have hps : p.size = t.size + 1 := by rw [← hp, ByteArray.size_append]; rfl
    have hz := zz_lt i i1 i2
    obtain ⟨n1, n2, n3, a1, a2, a3, a4, a5, a6⟩ := row_back u i t p hu hz (by omega) (by omega) (by omega)
    have hF := frS_good p (by omega) (by omega)
    obtain ⟨S, hS⟩ : ∃ S, rowS u i t p = S := ⟨_, rfl⟩
    rw [hS] at a1 a2 a3 a4 a5 a6
    have zA := (uintS_size u).2
    have zB := (uintS_size (zz i)).2
    have zC : (textS t).size ≤ 1010 := by
      unfold textS
      rw [ByteArray.size_append]
      have := (uintS_size t.size).2
      omega
    have zD : (frS p).size ≤ 1010 := by
      rw [hF.2, ByteArray.size_append, ByteArray.size_append, fourS_size, sealS_size]
      have : (⟨#[1]⟩ : ByteArray).size = 1 := rfl
      omega
    have zS : S.size ≤ 3000 := by
      rw [← hS]
      unfold rowS
      rw [ByteArray.size_append, ByteArray.size_append, ByteArray.size_append]
      omega
    have hS' : uintS u ++ uintS (zz i) ++ textS t ++ frS p = S := hS
    have cF : ∀ W : World, Tab W → Calls Tryd.prog 27 #[.string p] W fun e w' => e = .returned (.tuple #[.string (frS p), .int .i64 0]) ∧ Below W.heap.size W w' := fun W hW => by
      have h := frame_any p (by omega) W hW
      rw [hF.1] at h
      exact h
    have c1 : ∀ W : World, Calls Tryd.prog 12 #[.string S, .int .i64 0] W fun e w' => e = .returned (.tuple #[.int .u64 (u : Int), .int .i64 (n1 : Int), .int .i64 0]) ∧ W = w' := fun W => by
      have h := readUint_any S 0 (by omega) W
      rw [a1.1, a1.2.1, a1.2.2] at h
      exact h
    have c2 : ∀ W : World, Calls Tryd.prog 17 #[.string S, .int .i64 (n1 : Int)] W fun e w' => e = .returned (.tuple #[.int .i64 i, .int .i64 (n2 : Int), .int .i64 0]) ∧ W = w' := fun W => by
      have h := readInt_any S (n1 : Int) (by omega) W
      rw [a2.1, a2.2.1, a2.2.2, un_zz] at h
      exact h
    have c3 : ∀ W : World, Calls Tryd.prog 21 #[.string S, .int .i64 (n2 : Int)] W fun e w' => e = .returned (.tuple #[.string t, .int .i64 (n3 : Int), .int .i64 0]) ∧ W = w' := fun W => by
      have h := readText_any S (n2 : Int) (by omega) W
      rw [a3.1, a3.2.1, a3.2.2] at h
      exact h
    have c4 : ∀ W : World, Tab W → Calls Tryd.prog 29 #[.string S, .int .i64 (n3 : Int)] W fun e w' => e = .returned (.tuple #[.string p, .int .i64 (S.size : Int), .int .i64 0]) ∧ Below W.heap.size W w' := fun W hW =>
      unframe_in S n3 _ p S.size 0 (by omega) a4 a5 a6 W hW
    have c5 : ∀ W : World, Tab W → Calls Tryd.prog 31 #[.string (sealS S)] W fun e w' => e = .returned (.tuple #[.string S, .int .i64 0]) ∧ Below W.heap.size W w' := fun W hW => by
      have h := unseal_any (sealS S) (by rw [sealS_size]; omega) W hW
      rw [(seal_back S).1, (seal_back S).2] at h
      exact h
    have CF := Lib.hid cF
    have C1 := Lib.hid c1
    have C2 := Lib.hid c2
    have C3 := Lib.hid c3
    have C4 := Lib.hid c4
    have C5 := Lib.hid c5
    have CU := Lib.hid (uint_any u hu)
    have CI := Lib.hid (int_any i i1 i2)
    have CT := Lib.hid (text_any t (by omega))
    have CS := Lib.hid (seal_any S (by omega))
    clear cF c1 c2 c3 c4 c5 a1 a2 a3 a4 a5 a6 hF hS hz hu i1 i2 hps
    generalize frS p = D at *
    generalize textS t = C at *
    generalize uintS u = A at *
    generalize uintS (zz i) = B at *
    generalize sealS S = Z at *
    have T1 := Lib.hid (HT.out.below h1 (Nat.le_refl _))
    go_wp2_with (go_at_call 27; refine (CF.out _ T1.out).mono ?_; rintro e w2 ⟨rfl, h2⟩)
    go_wp2_with (go_at_call 15; refine (CU.out _).mono ?_; rintro e w3 ⟨rfl, h3⟩)
    go_wp2_with (go_at_call 19; refine (CI.out _).mono ?_; rintro e w4 ⟨rfl, h4⟩)
    go_wp2_with (go_at_call 23; refine (CT.out _).mono ?_; rintro e w5 ⟨rfl, h5⟩)
    have h15 := below_then (below_then (below_then (below_then h1 h2) h3) h4) h5
    have T5 := Lib.hid (HT.out.below h15 (Nat.le_refl _))
    clear h1 h2 h3 h4 h5
    go_wp2_with (first
      | (go_at_call 12; refine (C1.out _).mono ?_; rintro e w6 ⟨rfl, rfl⟩)
      | (go_at_call 17; refine (C2.out _).mono ?_; rintro e w6 ⟨rfl, rfl⟩)
      | (go_at_call 21; refine (C3.out _).mono ?_; rintro e w6 ⟨rfl, rfl⟩)
      | (go_at_call 29; refine (C4.out _ T5.out).mono ?_; rintro e w6 ⟨rfl, h6⟩))
    have h16 := below_then h15 h6
    have T6 := Lib.hid (HT.out.below h16 (Nat.le_refl _))
    clear h15 h6
    go_wp2_with (go_at_call 33; refine (CS.out _ T6.out).mono ?_; rintro e w7 ⟨rfl, h7⟩)
    have h17 := below_then h16 h7
    have T7 := Lib.hid (HT.out.below h17 (Nat.le_refl _))
    clear h16 h7
    go_wp2_with (go_at_call 31; refine (C5.out _ T7.out).mono ?_; rintro e w8 ⟨rfl, h8⟩)
    go_ret
    exact ⟨rfl, below_then h17 h8⟩
end Go.Proofs.YtdedkhifnecgkaaDoor.Enc
