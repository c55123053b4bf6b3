/-
  The law LabelsTexts: its walk. Own text.
-/
import Derived.Test.YtlolhbhanjhkbaaLWalk4
import Derived.Test.YtlolhbhanjhkbaaLRefS
import Derived.Test.YtlolhbhanjhkbaaLRefT
namespace Go.Proofs.Ytlolhbhanjhkbaa.Lab
open Go.RowKit Go Go.Proofs.Ytlolhbhanjhkbaa.Base Go.Shelf Go.Sort Go.Proofs.Ytlolhbhanjhkbaa.Enc

set_option maxRecDepth 100000 in
set_option maxHeartbeats 4000000 in
theorem texts_walk (ao : Option Addr) (cap : Nat) (l : List Lab) (s : ByteArray) (v : Value) (w : World) (hI : InLabs w v ao cap l) (hs : s.size ≤ 140737488351232) :
    Calls Try.prog 7 #[.slice ao l.length cap, .string s] w fun e w' => e = .returned (.bool true) ∧ Below w.heap.size w w' := by
  have hl : l.length < 4611686018427387904 := by have := hI.long; omega
  have hw := fun W => wakes_any W
  have h1 := fun W => read_any s hs W
  have h2 := fun W => refRead_any s hs W
  have hrl := readS_len s
  have h3 := fun (W : World) (hb : Below w.heap.size w W) => twin_any ao cap l W (by have := hI.long; omega) (hI.labs.below hb (Nat.le_refl _))
  have h4 := fun (W : World) (x : Option Addr) (cx : Nat) (hc : l.length ≤ cx) (hx : LabsAt W x l) => show_any x cx l W hl hc hx
  have h5 := fun (W : World) (hb : Below w.heap.size w W) => ref_any ao cap l W (by have := hI.long; omega) (hI.labs.below hb (Nat.le_refl _))
  have h6 := fun (W : World) (x : Option Addr) (cx : Nat) (hx : LabsAt W x l) => refShow_any x cx l W hl hI.sz hx
  have h7 := fun (W : World) (x y : Option Addr) (cx cy : Nat) (hx : LabsAt W x (readS s)) (hy : LabsAt W y (readS s)) => alike_any x y cx cy (readS s) (readS s) W (by omega) (by omega) hx hy
  simp only [decide_true] at h7
  generalize readS s = M at h1 h2 h7 hrl
  generalize readE s = E at h1 h2
  generalize showS l = T at h4 h6
  have tt : (T.toList == T.toList) = true := str_eq rfl
  have HW := Lib.hid hw
  have H1 := Lib.hid h1
  have H2 := Lib.hid h2
  have H3 := Lib.hid h3
  have H4 := Lib.hid h4
  have H5 := Lib.hid h5
  have H6 := Lib.hid h6
  have H7 := Lib.hid h7
  clear hw h1 h2 h3 h4 h5 h6 h7 hl hI hrl hs
  go_enter Try.func7, Try.ntmps7
  go_wp2_with (go_at_call 29; ((with_reducible refine (H1.out _).mono ?_); rintro e w1 ⟨v1, rfl, hrow⟩; obtain ⟨ao1, cap1, rfl, _, hlab⟩ := hrow.labs; have B1 := Lib.hid hrow.below; have L1 := Lib.hid hlab; clear hrow hlab))
  go_wp2_with (go_at_call 30; ((with_reducible refine (H2.out _).mono ?_); rintro e w2 ⟨v2, rfl, hrow⟩; obtain ⟨ao2, cap2, rfl, _, hlab⟩ := hrow.labs; have B2 := Lib.hid (le_below B1.out hrow.below); have L2 := Lib.hid (L1.out.below hrow.below (Nat.le_refl _)); have R2 := Lib.hid hlab; clear hrow hlab))
  go_wp2_with (go_at_call 17; ((with_reducible refine (HW.out _).mono ?_); rintro e w3 ⟨rfl, hb3⟩; have B3 := Lib.hid (le_below B2.out hb3); have L3 := Lib.hid (L2.out.below hb3 (Nat.le_refl _)); have R3 := Lib.hid (R2.out.below hb3 (Nat.le_refl _)); clear hb3))
  go_wp2_with (go_at_call 13; ((with_reducible refine (H3.out _ B3.out).mono ?_); rintro e w4 ⟨ao4, cap4, rfl, hrow⟩; obtain ⟨ao5, cap5, he, hc4, hlab⟩ := hrow.labs; injection he with he1 _ he2; subst he1 he2; have B4 := Lib.hid (le_below B3.out hrow.below); have L4 := Lib.hid (L3.out.below hrow.below (Nat.le_refl _)); have R4 := Lib.hid (R3.out.below hrow.below (Nat.le_refl _)); have T4 := Lib.hid hlab; have C4 := Lib.hid hc4; clear hrow hlab hc4))
  go_wp2_with (go_at_call 31; ((with_reducible refine (H4.out _ _ _ C4.out T4.out).mono ?_); rintro e w5 ⟨rfl, hb5⟩; have B5 := Lib.hid (le_below B4.out hb5); have L5 := Lib.hid (L4.out.below hb5 (Nat.le_refl _)); have R5 := Lib.hid (R4.out.below hb5 (Nat.le_refl _)); clear hb5))
  go_wp2_with (go_at_call 16; ((with_reducible refine (H5.out _ B5.out).mono ?_); rintro e w6 ⟨ao6, cap6, rfl, hrow⟩; obtain ⟨ao7, cap7, he, _, hlab⟩ := hrow.labs; injection he with he1 _ he2; subst he1 he2; have B6 := Lib.hid (le_below B5.out hrow.below); have L6 := Lib.hid (L5.out.below hrow.below (Nat.le_refl _)); have R6 := Lib.hid (R5.out.below hrow.below (Nat.le_refl _)); have T6 := Lib.hid hlab; clear hrow hlab))
  go_wp2_with (go_at_call 32; ((with_reducible refine (H6.out _ _ _ T6.out).mono ?_); rintro e w7 ⟨rfl, hb7⟩; have B7 := Lib.hid (le_below B6.out hb7); have L7 := Lib.hid (L6.out.below hb7 (Nat.le_refl _)); have R7 := Lib.hid (R6.out.below hb7 (Nat.le_refl _)); clear hb7))
  go_wp2_with (go_at_call 18; ((with_reducible refine (H7.out _ _ _ _ _ L7.out R7.out).mono ?_); rintro e w8 ⟨rfl, n8, rfl⟩; have B8 := Lib.hid (below_drewN B7.out n8)))
  go_ret
  exact ⟨by first | rfl | exact ret_bool (by simp), B8.out⟩
end Go.Proofs.Ytlolhbhanjhkbaa.Lab
