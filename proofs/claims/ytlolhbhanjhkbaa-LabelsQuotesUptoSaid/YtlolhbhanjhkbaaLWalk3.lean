/-
  The law LabelsBytes: its walk. Own text.
-/
import Derived.Test.YtlolhbhanjhkbaaLOpen
import Derived.Test.YtlolhbhanjhkbaaLRefD
namespace Go.Proofs.Ytlolhbhanjhkbaa.Lab
open Go.RowKit Go Go.Proofs.Ytlolhbhanjhkbaa.Base Go.Shelf Go.Sort Go.Proofs.Ytlolhbhanjhkbaa.Enc

theorem decAux_len (s : ByteArray) : ∀ (c a : Nat) (p : ByteArray) (acc : List Lab), (decAux s c a p acc).1.length ≤ acc.length + c
  | 0, a, p, acc => by rw [decAux]; simp
  | c + 1, a, p, acc => by
    rw [decAux]
    split
    · simp
    · split
      · simp
      · have := decAux_len s c (lbN s (a : Int)) (lbX s (a : Int)).n (acc ++ [lbX s (a : Int)])
        rw [List.length_append] at this
        simp only [List.length_cons, List.length_nil] at this
        omega
theorem decS_len (s : ByteArray) (a : Int) : (decS s a).1.length ≤ 8 := by
  unfold decS
  split
  · simp
  · have := decAux_len s (rcV s a) (rcN s a) ByteArray.empty []
    have := rcV_le s a
    simp only [List.length_nil] at *
    omega

set_option maxRecDepth 100000 in
set_option maxHeartbeats 4000000 in
theorem bytes_walk (ao : Option Addr) (cap : Nat) (l : List Lab) (s : ByteArray) (a : Int) (v : Value) (w : World) (hI : InLabs w v ao cap l) (hs : s.size ≤ 140737488351232) (_ : -9223372036854775808 ≤ a ∧ a ≤ 9223372036854775807) :
    Calls Try.prog 6 #[.slice ao l.length cap, .string s, .int .i64 a] w fun e w' => e = .returned (.bool true) ∧ Below w.heap.size w w' := by
  have hl : l.length < 4611686018427387904 := by have := hI.long; omega
  have hw := fun W => wakes_any W
  have h1 := twin_any ao cap l w (by have := hI.long; omega) hI.labs
  have h2 := fun (W : World) (x : Option Addr) (cx : Nat) (hc : l.length ≤ cx) (hx : LabsAt W x l) => encode_any x cx l W hl hc hx
  have h3 := fun (W : World) (hb : Below w.heap.size w W) => ref_any ao cap l W (by have := hI.long; omega) (hI.labs.below hb (Nat.le_refl _))
  have h4 := fun (W : World) (x : Option Addr) (cx : Nat) (hx : LabsAt W x l) => refEncode_any x cx l W hl hI.sz hx
  have h5 := fun W => decode_any s a hs W
  have h6 := fun W => refDecode_any s a hs W
  have hdl := decS_len s a
  have h7 := fun (W : World) (x y : Option Addr) (cx cy : Nat) (hx : LabsAt W x (decS s a).1) (hy : LabsAt W y (decS s a).1) => alike_any x y cx cy (decS s a).1 (decS s a).1 W (by omega) (by omega) hx hy
  simp only [decide_true] at h7
  generalize encS l = T at h2 h4
  generalize setE l = E at h2 h4
  generalize decS s a = D at h5 h6 h7
  obtain ⟨M, N, F⟩ := D
  simp only at h5 h6 h7
  have tt : (T.toList == T.toList) = true := str_eq rfl
  have HW := Lib.hid hw
  have H1 := Lib.hid h1
  have H2 := Lib.hid h2
  have H3 := Lib.hid h3
  have H4 := Lib.hid h4
  have H5 := Lib.hid h5
  have H6 := Lib.hid h6
  have H7 := Lib.hid h7
  clear hw h1 h2 h3 h4 h5 h6 h7 hl hI hdl hs
  go_enter Try.func6, Try.ntmps6
  go_wp2_with (go_at_call 13; ((with_reducible refine (H1.out).mono ?_); rintro e w1 ⟨ao1, cap1, rfl, hrow⟩; obtain ⟨ao2, cap2, he, hc1, hlab⟩ := hrow.labs; injection he with he1 _ he2; subst he1 he2; have B1 := Lib.hid hrow.below; have L1 := Lib.hid hlab; have C1 := Lib.hid hc1; clear hrow hlab hc1))
  go_wp2_with (go_at_call 25; ((with_reducible refine (H2.out w1 _ _ C1.out L1.out).mono ?_); rintro e w2 ⟨rfl, hb2⟩; have B2 := Lib.hid (le_below B1.out hb2); clear hb2))
  go_wp2_with (go_at_call 16; ((with_reducible refine (H3.out w2 B2.out).mono ?_); rintro e w3 ⟨ao3, cap3, rfl, hrow⟩; obtain ⟨ao4, cap4, he, _, hlab⟩ := hrow.labs; injection he with he1 _ he2; subst he1 he2; have B3 := Lib.hid (le_below B2.out hrow.below); have L3 := Lib.hid hlab; clear hrow hlab))
  go_wp2_with (go_at_call 26; ((with_reducible refine (H4.out _ _ _ L3.out).mono ?_); rintro e w4 ⟨rfl, hb4⟩; have B4 := Lib.hid (le_below B3.out hb4); clear hb4))
  go_wp2_with (go_at_call 27; ((with_reducible refine (H5.out _).mono ?_); rintro e w5 ⟨v5, rfl, hrow⟩; obtain ⟨ao5, cap5, rfl, _, hlab⟩ := hrow.labs; have B5 := Lib.hid (le_below B4.out hrow.below); have L5 := Lib.hid hlab; clear hrow hlab))
  go_wp2_with (go_at_call 28; ((with_reducible refine (H6.out _).mono ?_); rintro e w6 ⟨v6, rfl, hrow⟩; obtain ⟨ao6, cap6, rfl, _, hlab⟩ := hrow.labs; have B6 := Lib.hid (le_below B5.out hrow.below); have L5b := Lib.hid (L5.out.below hrow.below (Nat.le_refl _)); have L6 := Lib.hid hlab; clear hrow hlab))
  go_wp2_with (go_at_call 17; ((with_reducible refine (HW.out _).mono ?_); rintro e w7 ⟨rfl, hb7⟩; have B7 := Lib.hid (le_below B6.out hb7); have L7a := Lib.hid (L5b.out.below hb7 (Nat.le_refl _)); have L7b := Lib.hid (L6.out.below hb7 (Nat.le_refl _)); clear hb7))
  go_wp2_with (go_at_call 18; ((with_reducible refine (H7.out _ _ _ _ _ L7a.out L7b.out).mono ?_); rintro e w8 ⟨rfl, n8, rfl⟩; have B8 := Lib.hid (below_drewN B7.out n8)))
  go_ret
  exact ⟨by first | rfl | exact ret_bool (by simp), B8.out⟩
end Go.Proofs.Ytlolhbhanjhkbaa.Lab
