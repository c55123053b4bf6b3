/-
  The laws LabelsGets, LabelsOrder, LabelsSorts, LabelsMakes: their walks. Own text.
-/
import Derived.Test.YtlolhbhanjhkbaaLOpen
namespace Go.Proofs.Ytlolhbhanjhkbaa.Lab
open Go.RowKit Go Go.Proofs.Ytlolhbhanjhkbaa.Base Go.Shelf Go.Sort

set_option maxRecDepth 100000 in
set_option maxHeartbeats 1000000 in
theorem gets_walk (ao : Option Addr) (cap : Nat) (l : List Lab) (n : ByteArray) (v : Value) (w : World) (hI : InLabs w v ao cap l) :
    Calls Try.prog 5 #[.slice ao l.length cap, .string n] w fun e w' => e = .returned (.bool true) ∧ Below w.heap.size w w' := by
  have hw := wakes_any w
  have hg := fun (W : World) (hb : Below w.heap.size w W) => get_any ao cap l n W (by have := hI.long; omega) (hI.labs.below hb (Nat.le_refl _))
  have hr := fun (W : World) (hb : Below w.heap.size w W) => ref_any ao cap l W (by have := hI.long; omega) (hI.labs.below hb (Nat.le_refl _))
  have hd := fun (W : World) (ao' : Option Addr) (cap' : Nat) (hL : LabsAt W ao' l) => refGet_any ao' cap' l n W (by have := hI.long; omega) hL
  obtain ⟨G, hG⟩ : ∃ G, getV l n = G := ⟨_, rfl⟩
  rw [hG] at hg hd
  have HW := Lib.hid hw
  have HG := Lib.hid hg
  have HR := Lib.hid hr
  have HD := Lib.hid hd
  clear hw hg hr hd hG hI
  go_enter Try.func5, Try.ntmps5
  go_wp2_with (first
    | (go_at_call 17; refine HW.out.mono ?_; rintro e w1 ⟨rfl, hb1⟩)
    | (go_at_call 23; refine (HG.out _ hb1).mono ?_; rintro e w2 ⟨rfl, hb2⟩)
    | (go_at_call 16; refine (HR.out _ (le_below hb1 hb2)).mono ?_; rintro e w3 ⟨ao', cap', rfl, hrow⟩; obtain ⟨ao2, cap2, he, _, hlab⟩ := hrow.labs; injection he with he1 _ he2; subst he1 he2; have HROW := Lib.hid hrow.below; have HLAB := Lib.hid hlab; clear hrow hlab)
    | (go_at_call 24; refine (HD.out _ _ _ HLAB.out).mono ?_; rintro e w4 ⟨rfl, hb4⟩))
  go_ret
  exact ⟨by first | rfl | exact ret_bool (by simp), le_below (le_below (le_below hb1 hb2) HROW.out) hb4⟩

set_option maxRecDepth 100000 in
set_option maxHeartbeats 2000000 in
theorem order_walk (ao bo : Option Addr) (ca cb : Nat) (a b : List Lab) (va vb : Value) (w : World) (hA : InLabs w va ao ca a) (hB : InLabs w vb bo cb b) :
    Calls Try.prog 4 #[.slice ao a.length ca, .slice bo b.length cb] w fun e w' => e = .returned (.bool true) ∧ Below w.heap.size w w' := by
  have hw := fun W => wakes_any W
  have la : a.length < 4611686018427387904 := by have := hA.long; omega
  have lb : b.length < 4611686018427387904 := by have := hB.long; omega
  have h1 := fun (W : World) (hb : Below w.heap.size w W) => ref_any ao ca a W (by have := hA.long; omega) (hA.labs.below hb (Nat.le_refl _))
  have h2 := fun (W : World) (hb : Below w.heap.size w W) => ref_any bo cb b W (by have := hB.long; omega) (hB.labs.below hb (Nat.le_refl _))
  have h3 := fun (W : World) (x y : Option Addr) (cx cy : Nat) (hx : LabsAt W x a) (hy : LabsAt W y b) => refCompare_any x y cx cy a b W la lb hx hy
  have h4 := fun (W : World) (hb : Below w.heap.size w W) => compare_any ao bo ca cb a b W la lb (hA.labs.below hb (Nat.le_refl _)) (hB.labs.below hb (Nat.le_refl _))
  have h5 := fun (W : World) (hb : Below w.heap.size w W) => compare_any bo ao cb ca b a W lb la (hB.labs.below hb (Nat.le_refl _)) (hA.labs.below hb (Nat.le_refl _))
  have h6 := fun (W : World) (hb : Below w.heap.size w W) => compare_any ao ao ca ca a a W la la (hA.labs.below hb (Nat.le_refl _)) (hA.labs.below hb (Nat.le_refl _))
  rw [cmpL_ord.refl a] at h6
  have hsw := cmpL_ord.swap a b
  have hrg := cmpL_ord.rng a b
  rw [hsw] at h5
  generalize cmpL a b = C at h3 h4 h5 hrg
  have HW := Lib.hid hw
  have H1 := Lib.hid h1
  have H2 := Lib.hid h2
  have H6 := Lib.hid h6
  clear hw h1 h2 h6 la lb hA hB hsw
  rcases hrg with rfl | rfl | rfl
  all_goals
    have H3 := Lib.hid h3
    have H4 := Lib.hid h4
    have H5 := Lib.hid h5
    clear h3 h4 h5
    go_enter Try.func4, Try.ntmps4
    go_wp2_with (go_at_call 16; ((with_reducible refine (H1.out _ (Below.refl _ _)).mono ?_); rintro e w1 ⟨ao1, cap1, rfl, hrow⟩; obtain ⟨ao2, cap2, he, _, hlab⟩ := hrow.labs; injection he with he1 _ he2; subst he1 he2; have B1 := Lib.hid hrow.below; have L1 := Lib.hid hlab; clear hrow hlab))
    go_wp2_with (go_at_call 16; ((with_reducible refine (H2.out _ B1.out).mono ?_); rintro e w2 ⟨ao3, cap3, rfl, hrow⟩; obtain ⟨ao4, cap4, he, _, hlab⟩ := hrow.labs; injection he with he1 _ he2; subst he1 he2; have B2 := Lib.hid (le_below B1.out hrow.below); have L1b := Lib.hid (L1.out.below hrow.below (Nat.le_refl _)); have L2 := Lib.hid hlab; clear hrow hlab))
    go_wp2_with (go_at_call 21; ((with_reducible refine (H3.out _ _ _ _ _ L1b.out L2.out).mono ?_); rintro e w3 ⟨rfl, nd, rfl⟩; have B3 := Lib.hid (below_drewN B2.out nd)))
    go_wp2_with (go_at_call 17; ((with_reducible refine (HW.out _).mono ?_); rintro e w4 ⟨rfl, hb4⟩; have B4 := Lib.hid (le_below B3.out hb4); clear hb4))
    go_wp2_with (go_at_call 22; ((with_reducible refine (H4.out _ B4.out).mono ?_); rintro e w5 ⟨rfl, hb5⟩; have B5 := Lib.hid (le_below B4.out hb5); clear hb5))
    go_wp2_with (go_at_call 22; ((with_reducible refine (H5.out _ B5.out).mono ?_); rintro e w6 ⟨rfl, hb6⟩; have B6 := Lib.hid (le_below B5.out hb6); clear hb6))
    go_wp2_with (go_at_call 22; ((with_reducible refine (H6.out _ B6.out).mono ?_); rintro e w7 ⟨rfl, hb7⟩; have B7 := Lib.hid (le_below B6.out hb7); clear hb7))
    go_ret
    exact ⟨by first | rfl | exact ret_bool (by simp), B7.out⟩

set_option maxRecDepth 100000 in
set_option maxHeartbeats 4000000 in
theorem sorts_walk (ao bo co : Option Addr) (ca cb cc : Nat) (a b c : List Lab) (va vb vc : Value) (w : World) (hA : InLabs w va ao ca a) (hB : InLabs w vb bo cb b) (hC : InLabs w vc co cc c) :
    Calls Try.prog 11 #[.slice ao a.length ca, .slice bo b.length cb, .slice co c.length cc] w fun e w' => e = .returned (.bool true) ∧ Below w.heap.size w w' := by
  have hw := fun W => wakes_any W
  have la : a.length < 4611686018427387904 := by have := hA.long; omega
  have lb : b.length < 4611686018427387904 := by have := hB.long; omega
  have lc : c.length < 4611686018427387904 := by have := hC.long; omega
  have h1 := compare_any ao bo ca cb a b w la lb hA.labs hB.labs
  have h2 := fun (W : World) (hb : Below w.heap.size w W) => compare_any bo co cb cc b c W lb lc (hB.labs.below hb (Nat.le_refl _)) (hC.labs.below hb (Nat.le_refl _))
  have h3 := fun (W : World) (hb : Below w.heap.size w W) => compare_any ao co ca cc a c W la lc (hA.labs.below hb (Nat.le_refl _)) (hC.labs.below hb (Nat.le_refl _))
  have h4 := fun (W : World) (hb : Below w.heap.size w W) => ref_any bo cb b W (by have := hB.long; omega) (hB.labs.below hb (Nat.le_refl _))
  have h5 := fun (W : World) (hb : Below w.heap.size w W) (x : Option Addr) (cx : Nat) (hx : LabsAt W x b) => alike_any ao x ca cx a b W la lb (hA.labs.below hb (Nat.le_refl _)) hx
  have hrx := cmpL_ord.rng a b
  have hry := cmpL_ord.rng b c
  have hrz := cmpL_ord.rng a c
  have hla := cmpL_ord.trans a b c
  have hlb : 0 ≤ cmpL a b → 0 ≤ cmpL b c → 0 ≤ cmpL a c := fun x y => by
    have s1 := cmpL_ord.swap a b
    have s2 := cmpL_ord.swap b c
    have s3 := cmpL_ord.swap a c
    have := cmpL_ord.trans c b a (by omega) (by omega)
    omega
  have heq : decide (a = b) = decide (cmpL a b = 0) := by
    by_cases e : a = b
    · subst e; rw [cmpL_ord.refl]; simp
    · rw [decide_eq_false e, decide_eq_false (fun h => e (cmpL_ord.eq _ _ h))]
  rw [heq] at h5
  generalize cmpL a b = X at *
  generalize cmpL b c = Y at *
  generalize cmpL a c = Z at *
  have HW := Lib.hid hw
  have H4 := Lib.hid h4
  clear hw h4 hA hB hC la lb lc heq
  rcases hrx with rfl | rfl | rfl <;> rcases hry with rfl | rfl | rfl <;> rcases hrz with rfl | rfl | rfl
  all_goals first
    | (exfalso; have := hla (by decide) (by decide); omega)
    | (exfalso; have := hlb (by decide) (by decide); omega)
    | skip
  all_goals
    have H1 := Lib.hid h1
    have H2 := Lib.hid h2
    have H3 := Lib.hid h3
    have H5 := Lib.hid h5
    clear h1 h2 h3 h5 hla hlb
    go_enter Try.func11, Try.ntmps11
    go_wp2_with (go_at_call 22; ((with_reducible refine (H1.out).mono ?_); rintro e w1 ⟨rfl, hb1⟩; have B1 := Lib.hid hb1; clear hb1))
    go_wp2_with (go_at_call 22; ((with_reducible refine (H2.out _ B1.out).mono ?_); rintro e w2 ⟨rfl, hb2⟩; have B2 := Lib.hid (le_below B1.out hb2); clear hb2))
    go_wp2_with (go_at_call 22; ((with_reducible refine (H3.out _ B2.out).mono ?_); rintro e w3 ⟨rfl, hb3⟩; have B3 := Lib.hid (le_below B2.out hb3); clear hb3))
    go_wp2_with (go_at_call 17; ((with_reducible refine (HW.out _).mono ?_); rintro e w4 ⟨rfl, hb4⟩; have B4 := Lib.hid (le_below B3.out hb4); clear hb4))
    go_wp2_with (go_at_call 16; ((with_reducible refine (H4.out _ B4.out).mono ?_); rintro e w5 ⟨ao1, cap1, rfl, hrow⟩; obtain ⟨ao2, cap2, he, _, hlab⟩ := hrow.labs; injection he with he1 _ he2; subst he1 he2; have B5 := Lib.hid (le_below B4.out hrow.below); have L5 := Lib.hid hlab; clear hrow hlab))
    go_wp2_with (go_at_call 18; ((with_reducible refine (H5.out _ B5.out _ _ L5.out).mono ?_); rintro e w6 ⟨rfl, nd, rfl⟩; have B6 := Lib.hid (below_drewN B5.out nd)))
    go_ret
    exact ⟨by first | rfl | exact ret_bool (by simp), B6.out⟩
end Go.Proofs.Ytlolhbhanjhkbaa.Lab
