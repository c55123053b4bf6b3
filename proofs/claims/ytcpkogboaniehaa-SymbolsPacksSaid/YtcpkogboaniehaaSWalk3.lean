/-
  The walk of SymbolsPacks. Own text.
-/
import Derived.Test.YtcpkogboaniehaaSWalk1
import Derived.Test.YtcpkogboaniehaaSUnp3
import Derived.Test.YtcpkogboaniehaaSUnp4
import Derived.Test.YtcpkogboaniehaaLAlike
namespace Go.Proofs.Ytcpkogboaniehaa.Sym
open Go.RowKit Go Go.Proofs.Ytcpkogboaniehaa.Base Go.Proofs.Ytcpkogboaniehaa.Lab Go.Shelf Go.Sort Go.Proofs.Ytcpkogboaniehaa.Enc

set_option maxRecDepth 100000 in
set_option maxHeartbeats 4000000 in
theorem packs_walk (ao lo : Option Addr) (cap cl : Nat) (l : List ByteArray) (L : List Lab) (s : ByteArray) (v u : Value) (w : World) (hI : InTexts w v ao cap l) (hJ : InLabs w u lo cl L) (hs : s.size ≤ 140737488351232) :
    Calls Try.prog 5 #[.slice ao l.length cap, .slice lo L.length cl, .string s] w fun e w' => e = .returned (.bool true) ∧ Below w.heap.size w w' := by
  have hlen := hI.long
  have hT := hI.texts
  have hLl := hJ.long
  obtain ⟨T, hTT⟩ : ∃ T, tab l = T := ⟨_, rfl⟩
  have hr : Ris T := by rw [← hTT]; exact ris_tab l
  have htl : T.length ≤ l.length := by rw [← hTT]; exact tab_length l
  have htz : ∀ k, k < T.length → T[k]!.size < 4611686018427387904 := fun k hk => by
    have hm : T[k]! ∈ l := (mem_tab _ l).1 (by rw [hTT, getElem!_pos T k hk]; exact List.getElem_mem _)
    obtain ⟨i, hi, he⟩ := List.mem_iff_getElem.1 hm
    have := hI.sizes i hi
    rw [getElem!_pos l i hi, he] at this
    omega
  have h1 := twin_any ao cap l w (by omega) hT
  have h2 := fun (W : World) (x : Option Addr) (cx : Nat) (hx : TextsAt W x l) => of_any x cx l W (by omega) hx
  have h3 := fun (W : World) (hb : Below w.heap.size w W) => refOf_any l.length ao cap l W rfl hI.cap (by omega) (hT.below hb (Nat.le_refl _))
  rw [hTT] at h2 h3
  have h4 := fun (W : World) (hb : Below w.heap.size w W) => (by
    have hsrc : Src Try.prog 2 38 (.slice lo L.length cl) L.length (cellsL L) W := by
      rcases src_labs Try.underlying38 (cap := cl) (hJ.labs.below hb (Nat.le_refl _)) with h | ⟨e, a, e2⟩
      · exact h
      · subst e e2
        exact Src.ofSlice W Try.underlying38 a 0 cl [] rfl (fun j u hj => by cases hj) (fun u hu => by cases hu)
    have h := (LabRow.nil 69 W).append Try.underlying38 lab_info (Below.refl _ _) _ L hsrc (by simp; omega)
    simp only [List.length_nil, Nat.zero_add, List.nil_append] at h
    exact h : ∃ ao' cap' w', (Builtin.append_ #[38, 38] 38 #[.slice none 0 0, .slice lo L.length cl]).run Try.prog W = .ok (.slice ao' L.length cap') w' ∧ LabRow 69 W w' (.slice ao' L.length cap') L)
  have h5 := fun (W : World) (p : Value) (x y : Option Addr) (cx cy : Nat) (h : TabAt W p T x cx) (hc : L.length ≤ cy) (hy : LabsAt W y L) => pack_any W h y cy L (by omega) hc hy
  have h6 := fun (W : World) (hb : Below w.heap.size w W) => Go.Proofs.Ytcpkogboaniehaa.Lab.ref_any lo cl L W (by omega) (hJ.labs.below hb (Nat.le_refl _))
  have h7 := fun (W : World) (x y : Option Addr) (cx cy : Nat) (hx : TextsAt W x T) (hy : LabsAt W y L) => refPack_any x cx T W (by omega) hx hr y cy L (by omega) hJ.sz hy
  have h8 := fun (W : World) (p : Value) (x : Option Addr) (cx : Nat) (h : TabAt W p T x cx) => unpack_any W h s 0 hs
  have h9 := fun (W : World) (x : Option Addr) (cx : Nat) (hx : TextsAt W x T) => refUnpack_any x cx T W (by omega) hx htz s 0 hs
  generalize pkS T L = P at *
  obtain ⟨PS, PE⟩ := P
  have hul := up_len T s 0
  generalize upS T s 0 = U at *
  obtain ⟨UL, UN, UE⟩ := U
  have h10 := fun (W : World) (x y : Option Addr) (cx cy : Nat) (hx : LabsAt W x UL) (hy : LabsAt W y UL) => Go.Proofs.Ytcpkogboaniehaa.Lab.alike_any x y cx cy UL UL W (by simp only at hul; omega) (by simp only at hul; omega) hx hy
  simp only [decide_true] at h10
  have H1 := Lib.hid h1
  have H2 := Lib.hid h2
  have H3 := Lib.hid h3
  have H4 := Lib.hid h4
  have H5 := Lib.hid h5
  have H6 := Lib.hid h6
  have H7 := Lib.hid h7
  have H8 := Lib.hid h8
  have H9 := Lib.hid h9
  have H10 := Lib.hid h10
  have HW := Lib.hid wakes_any
  have t1 := str_eq (a := PS) rfl
  clear h1 h2 h3 h4 h5 h6 h7 h8 h9 h10 hr htl htz hTT hT hI hJ hlen hLl hul
  go_enter Try.func5, Try.ntmps5
  go_wp2_with (go_at_call 9; ((with_reducible refine H1.out.mono ?_); rintro e w1 ⟨a1, c1, rfl, hrow⟩; obtain ⟨a2, c2, he, _, ht⟩ := hrow.texts; injection he with he1 _ he2; subst he1 he2; have B1 := Lib.hid hrow.below; have T1 := Lib.hid ht; clear hrow ht))
  go_wp2_with (go_at_call 8; ((with_reducible refine (H2.out _ _ _ T1.out).mono ?_); rintro e w2 ⟨p, rfl, hN⟩; obtain ⟨a3, c3, ht⟩ := hN.tab; have P2 := Lib.hid ht; have B2 := Lib.hid (le_below B1.out hN.below); clear hN ht))
  go_wp2_with (first
    | (go_at_call 10; ((with_reducible refine (H3.out _ B2.out).mono ?_); rintro e w3 ⟨v3, rfl, hrow⟩; obtain ⟨a4, c4, rfl, _, ht⟩ := hrow.texts; have T3 := Lib.hid ht; have P3 := Lib.hid (P2.out.below hrow.below (Nat.le_refl _)); have B3 := Lib.hid (le_below B2.out hrow.below); clear hrow ht; obtain ⟨a5, c5, w5, hrun, hrow⟩ := H4.out _ B3.out; have HRun := Lib.hid hrun; obtain ⟨a6, c6, he, hc6, hl6⟩ := hrow.labs; injection he with he1 _ he2; subst he1 he2; have B5 := Lib.hid (le_below B3.out hrow.below); have P5 := Lib.hid (P3.out.below hrow.below (Nat.le_refl _)); have T5 := Lib.hid (T3.out.below hrow.below (Nat.le_refl _)); have L5 := Lib.hid hl6; have C5 := Lib.hid hc6; clear hrun hrow hl6 hc6))
    | (at_builtin; refine Row.append_by rfl (.const (.slice none 0 0)) (.tmp 26) _ rfl _ _ rfl rfl HRun.out ?_)
    | (go_at_call 19; ((with_reducible refine (H5.out _ _ _ _ _ _ P5.out C5.out L5.out).mono ?_); rintro e w6 ⟨rfl, hb⟩; have B6 := Lib.hid (le_below B5.out hb); have P6 := Lib.hid (P5.out.below hb (Nat.le_refl _)); have T6 := Lib.hid (T5.out.below hb (Nat.le_refl _)); clear hb)))
  go_wp2_with (go_at_call 16; ((with_reducible refine (H6.out _ B6.out).mono ?_); rintro e w7 ⟨a7, c7, rfl, hrow⟩; obtain ⟨a8, c8, he, _, ht⟩ := hrow.labs; injection he with he1 _ he2; subst he1 he2; have B7 := Lib.hid (le_below B6.out hrow.below); have P7 := Lib.hid (P6.out.below hrow.below (Nat.le_refl _)); have T7 := Lib.hid (T6.out.below hrow.below (Nat.le_refl _)); have L7 := Lib.hid ht; clear hrow ht))
  go_wp2_with (go_at_call 20; ((with_reducible refine (H7.out _ _ _ _ _ T7.out L7.out).mono ?_); rintro e w8 ⟨rfl, hb⟩; have B8 := Lib.hid (le_below B7.out hb); have P8 := Lib.hid (P7.out.below hb (Nat.le_refl _)); have T8 := Lib.hid (T7.out.below hb (Nat.le_refl _)); clear hb))
  go_wp2_with (go_at_call 21; ((with_reducible refine (H8.out _ _ _ _ P8.out).mono ?_); rintro e w9 ⟨v9, rfl, hrow⟩; obtain ⟨a9, c9, rfl, _, ht⟩ := hrow.labs; have B9 := Lib.hid (le_below B8.out hrow.below); have T9 := Lib.hid (T8.out.below hrow.below (Nat.le_refl _)); have L9 := Lib.hid ht; clear hrow ht))
  go_wp2_with (go_at_call 22; ((with_reducible refine (H9.out _ _ _ T9.out).mono ?_); rintro e w10 ⟨v10, rfl, hrow⟩; obtain ⟨a10, c10, rfl, _, ht⟩ := hrow.labs; have B10 := Lib.hid (le_below B9.out hrow.below); have L10 := Lib.hid (L9.out.below hrow.below (Nat.le_refl _)); have M10 := Lib.hid ht; clear hrow ht))
  go_wp2_with (go_at_call 14; ((with_reducible refine (HW.out _).mono ?_); rintro e w11 ⟨rfl, hb⟩; have B11 := Lib.hid (le_below B10.out hb); have L11 := Lib.hid (L10.out.below hb (Nat.le_refl _)); have M11 := Lib.hid (M10.out.below hb (Nat.le_refl _)); clear hb))
  go_wp2_with (go_at_call 23; ((with_reducible refine (H10.out _ _ _ _ _ L11.out M11.out).mono ?_); rintro e w12 ⟨rfl, n12, hw12⟩; have B12 := Lib.hid (show Below w.heap.size w w12 by rw [hw12]; exact below_drewN B11.out n12); clear hw12))
  go_ret
  exact ⟨by first | rfl | exact ret_bool (by simp), B12.out⟩

end Go.Proofs.Ytcpkogboaniehaa.Sym
