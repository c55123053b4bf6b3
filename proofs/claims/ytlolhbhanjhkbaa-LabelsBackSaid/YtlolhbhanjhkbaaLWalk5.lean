/-
  The law LabelsBack: its walk. Own text.
-/
import Derived.Test.YtlolhbhanjhkbaaLWalk4
namespace Go.Proofs.Ytlolhbhanjhkbaa.Lab
open Go.RowKit Go Go.Proofs.Ytlolhbhanjhkbaa.Base Go.Shelf Go.Sort Go.Proofs.Ytlolhbhanjhkbaa.Enc

theorem showS_size {l : List Lab} (h : validB l = true) : (showS l).size ≤ 2400 := by
  have hc := valid_chk h
  obtain ⟨_, h8⟩ := chk_zero_len hc
  have hlab := chk_labs hc
  have hs : (showS l).size = (showN l).length := by
    unfold showS
    rw [if_pos h, ← nums_length, strN_nums _ (showN_lt l)]
  have := joinN_length (l.map partN) 291 (fun x hx => by
    obtain ⟨y, hy, rfl⟩ := List.mem_map.1 hx
    obtain ⟨f1, f2⟩ := labE_fit (hlab y hy)
    rw [partN, nums_length]
    exact part_size (fitN_size f1).2 (fitV_size f2).2)
  rw [List.length_map] at this
  rw [hs]
  unfold showN
  omega
theorem encS_size {l : List Lab} (h : setE l = 0) : (encS l).size ≤ 1000 := by
  have hc := set_chk h
  obtain ⟨_, h8⟩ := chk_zero_len hc
  have := encK_size l (fun k hk => ⟨(fit_sizes hc hk).1, (fit_sizes hc hk).2.2⟩) l.length (Nat.le_refl _)
  unfold encS
  rw [if_pos h]
  omega
theorem decS_in {S : List Lab} (h : setE S = 0) : decS (⟨#[120]⟩ ++ encS S ++ ⟨#[121]⟩) 1 = (S, 1 + (encS S).size, 0) := by
  refine decS_back (b := 1) (R := [121]) h ⟨?_, ?_⟩
  · rw [ByteArray.size_append, ByteArray.size_append]
    have : (⟨#[120]⟩ : ByteArray).size = 1 := rfl
    omega
  · rw [nums_append, nums_append]
    rfl

set_option maxRecDepth 100000 in
set_option maxHeartbeats 4000000 in
theorem back_walk (ao : Option Addr) (cap : Nat) (l : List Lab) (v : Value) (w : World) (hI : InLabs w v ao cap l) :
    Calls Try.prog 9 #[.slice ao l.length cap] w fun e w' => e = .returned (.bool true) ∧ Below w.heap.size w w' := by
  have hl : l.length < 4611686018427387904 := by have := hI.long; omega
  have hw := fun W => wakes_any W
  have h1 := fun (W : World) (hb : Below w.heap.size w W) => twin_any ao cap l W (by have := hI.long; omega) (hI.labs.below hb (Nat.le_refl _))
  have h2 := fun (W : World) (x : Option Addr) (cx : Nat) (hc : l.length ≤ cx) (hx : LabsAt W x l) => make_any x cx l W hl hc hx
  have HW := Lib.hid hw
  have H1 := Lib.hid h1
  by_cases hE : chk l = 0
  · have hv := make_valid hE
    have hS : makeL l = sortL l := by unfold makeL; rw [if_pos hE]
    rw [hS, hE] at h2
    generalize sortL l = S at h2 hv
    have hset : setE S = 0 := by unfold validB at hv; exact of_decide_eq_true hv
    obtain ⟨hl1, hl8⟩ := chk_zero_len (set_chk hset)
    have h3 := fun (W : World) (x : Option Addr) (cx : Nat) (hc : S.length ≤ cx) (hx : LabsAt W x S) => encode_any x cx S W (by omega) hc hx
    have h4 := fun W => decode_any (⟨#[120]⟩ ++ encS S ++ ⟨#[121]⟩) 1 (by have := encS_size hset; rw [ByteArray.size_append, ByteArray.size_append]; have h1 : (⟨#[120]⟩ : ByteArray).size = 1 := rfl; have h2 : (⟨#[121]⟩ : ByteArray).size = 1 := rfl; omega) W
    rw [decS_in hset] at h4
    simp only at h4
    rw [hset] at h3
    have h5 := fun (W : World) (x : Option Addr) (cx : Nat) (hc : S.length ≤ cx) (hx : LabsAt W x S) => show_any x cx S W (by omega) hc hx
    have h6 := fun W => read_any (showS S) (by have := showS_size hv; omega) W
    rw [(read_back hv).1, (read_back hv).2] at h6
    have h7 := fun (W : World) (x : Option Addr) (cx : Nat) (hx : LabsAt W x S) => ref_any x cx S W (by omega) hx
    have h8 := fun (W : World) (x y : Option Addr) (cx cy : Nat) (hx : LabsAt W x S) (hy : LabsAt W y S) => alike_any x y cx cy S S W (by omega) (by omega) hx hy
    simp only [decide_true] at h8
    have h9 := fun (W : World) (x y : Option Addr) (cx cy : Nat) (hx : LabsAt W x S) (hy : LabsAt W y S) => compare_any x y cx cy S S W (by omega) (by omega) hx hy
    rw [cmpL_ord.refl S] at h9
    have hTz := encS_size hset
    have hSz := showS_size hv
    generalize encS S = T at h3 h4 hTz
    generalize showS S = U at h5 h6 hSz
    have hN : ((1 + T.size : Nat) : Int) = (T.size : Int) + 1 := by omega
    rw [hN] at h4
    have HL1 := Lib.hid hl1
    have HL8 := Lib.hid hl8
    have H2 := Lib.hid h2
    have H3 := Lib.hid h3
    have H4 := Lib.hid h4
    have H5 := Lib.hid h5
    have H6 := Lib.hid h6
    have H7 := Lib.hid h7
    have H8 := Lib.hid h8
    have H9 := Lib.hid h9
    clear hw h1 h2 h3 h4 h5 h6 h7 h8 h9 hl hI hset hv hS hE hN hl1 hl8 hSz
    go_enter Try.func9, Try.ntmps9
    go_wp2_with (go_at_call 17; ((with_reducible refine (HW.out _).mono ?_); rintro e w0 ⟨rfl, hb0⟩; have B0 := Lib.hid hb0; clear hb0))
    go_wp2_with (go_at_call 13; ((with_reducible refine (H1.out _ B0.out).mono ?_); rintro e w1 ⟨ao1, cap1, rfl, hrow⟩; obtain ⟨ao2, cap2, he, hc1, hlab⟩ := hrow.labs; injection he with he1 _ he2; subst he1 he2; have B1 := Lib.hid (le_below B0.out hrow.below); have L1 := Lib.hid hlab; have C1 := Lib.hid hc1; clear hrow hlab hc1))
    go_wp2_with (go_at_call 14; ((with_reducible refine (H2.out _ _ _ C1.out L1.out).mono ?_); rintro e w2 ⟨v2, rfl, hown, hb2⟩; obtain ⟨ao3, cap3, rfl, hc2, _, hL2, _⟩ := labs_of_row hown; have B2 := Lib.hid (le_below B1.out hb2); have C2 := Lib.hid hc2; have L2 := Lib.hid hL2; clear hown hb2 hL2 hc2))
    go_wp2_with (go_at_call 25; ((with_reducible refine (H3.out _ _ _ C2.out L2.out).mono ?_); rintro e w3 ⟨rfl, hb3⟩; have B3 := Lib.hid (le_below B2.out hb3); have L3 := Lib.hid (L2.out.below hb3 (Nat.le_refl _)); clear hb3))
    go_wp2_with (go_at_call 27; ((with_reducible refine (H4.out _).mono ?_); rintro e w4 ⟨v4, rfl, hrow⟩; obtain ⟨ao4, cap4, rfl, hc4, hlab⟩ := hrow.labs; have B4 := Lib.hid (le_below B3.out hrow.below); have L4 := Lib.hid (L3.out.below hrow.below (Nat.le_refl _)); have A4 := Lib.hid hlab; clear hrow hlab hc4))
    go_wp2_with (go_at_call 31; ((with_reducible refine (H5.out _ _ _ C2.out L4.out).mono ?_); rintro e w5 ⟨rfl, hb5⟩; have B5 := Lib.hid (le_below B4.out hb5); have L5 := Lib.hid (L4.out.below hb5 (Nat.le_refl _)); have A5 := Lib.hid (A4.out.below hb5 (Nat.le_refl _)); clear hb5))
    go_wp2_with (go_at_call 29; ((with_reducible refine (H6.out _).mono ?_); rintro e w6 ⟨v6, rfl, hrow⟩; obtain ⟨ao6, cap6, rfl, hc6, hlab⟩ := hrow.labs; have B6 := Lib.hid (le_below B5.out hrow.below); have L6 := Lib.hid (L5.out.below hrow.below (Nat.le_refl _)); have A6 := Lib.hid (A5.out.below hrow.below (Nat.le_refl _)); have D6 := Lib.hid hlab; clear hrow hlab hc6))
    go_wp2_with (go_at_call 16; ((with_reducible refine (H7.out _ _ _ L6.out).mono ?_); rintro e w7 ⟨ao7, cap7, rfl, hrow⟩; obtain ⟨ao8, cap8, he, _, hlab⟩ := hrow.labs; injection he with he1 _ he2; subst he1 he2; have B7 := Lib.hid (le_below B6.out hrow.below); have L7 := Lib.hid (L6.out.below hrow.below (Nat.le_refl _)); have A7 := Lib.hid (A6.out.below hrow.below (Nat.le_refl _)); have D7 := Lib.hid (D6.out.below hrow.below (Nat.le_refl _)); have R7 := Lib.hid hlab; clear hrow hlab))
    go_wp2_with (go_at_call 18; ((with_reducible refine (H8.out _ _ _ _ _ A7.out R7.out).mono ?_); rintro e w8 ⟨rfl, n8, hw8⟩; have B8 := Lib.hid (show Below w.heap.size w w8 by rw [hw8]; exact below_drewN B7.out n8); have L8 := Lib.hid (show LabsAt w8 _ _ by rw [hw8]; exact L7.out); have A8 := Lib.hid (show LabsAt w8 _ _ by rw [hw8]; exact A7.out); have D8 := Lib.hid (show LabsAt w8 _ _ by rw [hw8]; exact D7.out); clear hw8))
    go_wp2_with (go_at_call 16; ((with_reducible refine (H7.out _ _ _ L8.out).mono ?_); rintro e w9 ⟨ao9, cap9, rfl, hrow⟩; obtain ⟨ao10, cap10, he, _, hlab⟩ := hrow.labs; injection he with he1 _ he2; subst he1 he2; have B9 := Lib.hid (le_below B8.out hrow.below); have A9 := Lib.hid (A8.out.below hrow.below (Nat.le_refl _)); have D9 := Lib.hid (D8.out.below hrow.below (Nat.le_refl _)); have R9 := Lib.hid hlab; clear hrow hlab))
    go_wp2_with (go_at_call 18; ((with_reducible refine (H8.out _ _ _ _ _ D9.out R9.out).mono ?_); rintro e w10 ⟨rfl, n10, hw10⟩; have B10 := Lib.hid (show Below w.heap.size w w10 by rw [hw10]; exact below_drewN B9.out n10); have A10 := Lib.hid (show LabsAt w10 _ _ by rw [hw10]; exact A9.out); have D10 := Lib.hid (show LabsAt w10 _ _ by rw [hw10]; exact D9.out); clear hw10))
    go_wp2_with (go_at_call 22; ((with_reducible refine (H9.out _ _ _ _ _ A10.out D10.out).mono ?_); rintro e w11 ⟨rfl, hb11⟩; have B11 := Lib.hid (le_below B10.out hb11); clear hb11))
    go_ret
    exact ⟨by first | rfl | exact ret_bool (by simp), B11.out⟩
  · have hS : makeL l = [] := by unfold makeL; rw [if_neg hE]
    rw [hS] at h2
    generalize chk l = E at h2 hE
    have H2 := Lib.hid h2
    clear hw h1 h2 hl hI hS
    go_enter Try.func9, Try.ntmps9
    go_wp2_with (go_at_call 17; ((with_reducible refine (HW.out _).mono ?_); rintro e w0 ⟨rfl, hb0⟩; have B0 := Lib.hid hb0; clear hb0))
    go_wp2_with (go_at_call 13; ((with_reducible refine (H1.out _ B0.out).mono ?_); rintro e w1 ⟨ao1, cap1, rfl, hrow⟩; obtain ⟨ao2, cap2, he, hc1, hlab⟩ := hrow.labs; injection he with he1 _ he2; subst he1 he2; have B1 := Lib.hid (le_below B0.out hrow.below); have L1 := Lib.hid hlab; have C1 := Lib.hid hc1; clear hrow hlab hc1))
    go_wp2_with (go_at_call 14; ((with_reducible refine (H2.out _ _ _ C1.out L1.out).mono ?_); rintro e w2 ⟨v2, rfl, hown, hb2⟩; obtain ⟨ao3, cap3, rfl, hc2, _, hL2, _⟩ := labs_of_row hown; have B2 := Lib.hid (le_below B1.out hb2); clear hown hb2 hL2 hc2))
    go_ret
    exact ⟨by first | rfl | exact ret_bool (by simp), B2.out⟩
end Go.Proofs.Ytlolhbhanjhkbaa.Lab
