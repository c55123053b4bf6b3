/-
  The law LabelsMakes: its walk. Own text.
-/
import Derived.Test.YtlolhbhanjhkbaaLOpen
namespace Go.Proofs.Ytlolhbhanjhkbaa.Lab
open Go.RowKit Go Go.Proofs.Ytlolhbhanjhkbaa.Base Go.Shelf Go.Sort

set_option maxRecDepth 100000 in
set_option maxHeartbeats 4000000 in
theorem makes_walk (ao : Option Addr) (cap : Nat) (l : List Lab) (v : Value) (w : World) (hI : InLabs w v ao cap l) :
    Calls Try.prog 3 #[.slice ao l.length cap] w fun e w' => e = .returned (.bool true) ∧ Below w.heap.size w w' := by
  have hl : l.length < 4611686018427387904 := by have := hI.long; omega
  have hw := fun W => wakes_any W
  have h1 := twin_any ao cap l w (by have := hI.long; omega) hI.labs
  have h2 := fun (W : World) (x : Option Addr) (cx : Nat) (hc : l.length ≤ cx) (hx : LabsAt W x l) => make_any x cx l W hl hc hx
  have h3 := fun (W : World) (hb : Below w.heap.size w W) => ref_any ao cap l W (by have := hI.long; omega) (hI.labs.below hb (Nat.le_refl _))
  have h4 := fun (W : World) (x : Option Addr) (cx : Nat) (hx : LabsAt W x l) => refMake_any x cx l W hl hI.sz hx
  have hml : (makeL l).length < 4611686018427387904 := by
    unfold makeL; split
    · rw [sortL_length]; exact hl
    · simp
  have h5 := fun (W : World) (x y : Option Addr) (cx cy : Nat) (hx : LabsAt W x (makeL l)) (hy : LabsAt W y (makeL l)) => alike_any x y cx cy (makeL l) (makeL l) W hml hml hx hy
  have h6 := fun (W : World) (x : Option Addr) (cx : Nat) (hc : l.length ≤ cx) (hx : LabsAt W x l) => valid_any x cx l W hl hc hx
  have h7 := fun (W : World) (x : Option Addr) (cx : Nat) (hx : LabsAt W x l) => refValid_any x cx l W hl hI.sz hx
  have h8 := fun (W : World) (x y : Option Addr) (cx cy : Nat) (hx : LabsAt W x l) (hy : LabsAt W y l) => alike_any x y cx cy l l W hl hl hx hy
  simp only [decide_true] at h5 h8
  generalize makeL l = M at h2 h4 h5
  generalize validB l = V at h6 h7
  generalize chk l = E at h2 h4
  have HW := Lib.hid hw
  have H1 := Lib.hid h1
  have H2 := Lib.hid h2
  have H3 := Lib.hid h3
  have H4 := Lib.hid h4
  have H5 := Lib.hid h5
  have H6 := Lib.hid h6
  have H7 := Lib.hid h7
  have H8 := Lib.hid h8
  clear hw h1 h2 h3 h4 h5 h6 h7 h8 hml hl hI
  go_enter Try.func3, Try.ntmps3
  go_wp2_with (go_at_call 13; ((with_reducible refine (H1.out).mono ?_); rintro e w1 ⟨ao1, cap1, rfl, hrow⟩; obtain ⟨ao2, cap2, he, hc1, hlab⟩ := hrow.labs; injection he with he1 _ he2; subst he1 he2; have B1 := Lib.hid hrow.below; have L1 := Lib.hid hlab; have C1 := Lib.hid hc1; clear hrow hlab hc1))
  go_wp2_with (go_at_call 14; ((with_reducible refine (H2.out _ _ _ C1.out L1.out).mono ?_); rintro e w2 ⟨v2, rfl, hown, hb2⟩; obtain ⟨ao3, cap3, rfl, _, _, hL2, _⟩ := labs_of_row hown; have B2 := Lib.hid (le_below B1.out hb2); have K2 := Lib.hid hb2; have L2 := Lib.hid hL2; clear hown hb2 hL2))
  go_wp2_with (go_at_call 16; ((with_reducible refine (H3.out _ B2.out).mono ?_); rintro e w3 ⟨ao4, cap4, rfl, hrow⟩; obtain ⟨ao5, cap5, he, _, hlab⟩ := hrow.labs; injection he with he1 _ he2; subst he1 he2; have B3 := Lib.hid (le_below B2.out hrow.below); have K3 := Lib.hid hrow.below; have L3 := Lib.hid hlab; clear hrow hlab))
  go_wp2_with (go_at_call 15; ((with_reducible refine (H4.out _ _ _ L3.out).mono ?_); rintro e w4 ⟨v4, rfl, hrow⟩; obtain ⟨ao6, cap6, rfl, _, hlab⟩ := hrow.labs; have B4 := Lib.hid (le_below B3.out hrow.below); have K4 := Lib.hid hrow.below; have L4 := Lib.hid hlab; clear hrow hlab))
  go_wp2_with (go_at_call 17; ((with_reducible refine (HW.out _).mono ?_); rintro e w5 ⟨rfl, hb5⟩; have B5 := Lib.hid (le_below B4.out hb5); have L5a := Lib.hid ((((L2.out.below K3.out (Nat.le_refl _)).below K4.out (Nat.le_refl _))).below hb5 (Nat.le_refl _)); have L5b := Lib.hid (L4.out.below hb5 (Nat.le_refl _)); have L5c := Lib.hid ((((L1.out.below K2.out (Nat.le_refl _)).below K3.out (Nat.le_refl _)).below K4.out (Nat.le_refl _)).below hb5 (Nat.le_refl _)); clear hb5))
  go_wp2_with (go_at_call 18; ((with_reducible refine (H5.out _ _ _ _ _ L5a.out L5b.out).mono ?_); rintro e w6 ⟨rfl, n6, rfl⟩; have B6 := Lib.hid (below_drewN B5.out n6); have L6 := Lib.hid (show LabsAt (w5.drewN n6) _ _ from L5c.out)))
  go_wp2_with (go_at_call 19; ((with_reducible refine (H6.out _ _ _ C1.out L6.out).mono ?_); rintro e w7 ⟨rfl, hb7⟩; have B7 := Lib.hid (le_below B6.out hb7); have L7 := Lib.hid (L6.out.below hb7 (Nat.le_refl _)); clear hb7))
  go_wp2_with (go_at_call 16; ((with_reducible refine (H3.out _ B7.out).mono ?_); rintro e w8 ⟨ao8, cap8, rfl, hrow⟩; obtain ⟨ao9, cap9, he, _, hlab⟩ := hrow.labs; injection he with he1 _ he2; subst he1 he2; have B8 := Lib.hid (le_below B7.out hrow.below); have L8 := Lib.hid (L7.out.below hrow.below (Nat.le_refl _)); have L8b := Lib.hid hlab; clear hrow hlab))
  go_wp2_with (go_at_call 20; ((with_reducible refine (H7.out _ _ _ L8b.out).mono ?_); rintro e w9 ⟨rfl, hb9⟩; have B9 := Lib.hid (le_below B8.out hb9); have L9 := Lib.hid (L8.out.below hb9 (Nat.le_refl _)); clear hb9))
  go_wp2_with (go_at_call 16; ((with_reducible refine (H3.out _ B9.out).mono ?_); rintro e w10 ⟨ao10, cap10, rfl, hrow⟩; obtain ⟨ao11, cap11, he, _, hlab⟩ := hrow.labs; injection he with he1 _ he2; subst he1 he2; have B10 := Lib.hid (le_below B9.out hrow.below); have L10 := Lib.hid (L9.out.below hrow.below (Nat.le_refl _)); have L10b := Lib.hid hlab; clear hrow hlab))
  go_wp2_with (go_at_call 18; ((with_reducible refine (H8.out _ _ _ _ _ L10.out L10b.out).mono ?_); rintro e w11 ⟨rfl, n11, rfl⟩; have B11 := Lib.hid (below_drewN B10.out n11)))
  go_ret
  exact ⟨by first | rfl | exact ret_bool (by simp), B11.out⟩
end Go.Proofs.Ytlolhbhanjhkbaa.Lab
