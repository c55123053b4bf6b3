/-
  The walk of SymbolsOf. Own text.
-/
import Derived.Test.YtcpkogboaniehaaSLaw
import Derived.Test.YtcpkogboaniehaaSPack2
import Derived.Test.YtcpkogboaniehaaSOpen
namespace Go.Proofs.Ytcpkogboaniehaa.Sym
open Go.RowKit Go Go.Proofs.Ytcpkogboaniehaa.Base Go.Proofs.Ytcpkogboaniehaa.Lab Go.Shelf Go.Sort Go.Proofs.Ytcpkogboaniehaa.Enc

theorem tS_in {T : List ByteArray} {n : Int} (h : ¬ n < 0) (h2 : n < (T.length : Int)) : tS T n = T[n.toNat]! ∧ tE T n = 0 := by
  unfold tS tE luS luE
  rw [if_neg h, if_neg h, if_pos (by omega), if_pos (by omega)]
  exact ⟨rfl, rfl⟩
theorem tS_out {T : List ByteArray} {n : Int} (h : n < 0 ∨ (T.length : Int) ≤ n) : tS T n = ByteArray.empty ∧ tE T n = 50 := by
  unfold tS tE luS luE
  by_cases h0 : n < 0
  · rw [if_pos h0, if_pos h0]; exact ⟨rfl, rfl⟩
  · rw [if_neg h0, if_neg h0, if_neg (by omega), if_neg (by omega)]; exact ⟨rfl, rfl⟩

set_option maxRecDepth 100000 in
set_option maxHeartbeats 4000000 in
theorem of_walk (ao : Option Addr) (cap : Nat) (l : List ByteArray) (n : Int) (s : ByteArray) (v : Value) (w : World) (hI : InTexts w v ao cap l) (hn1 : -9223372036854775808 ≤ n) (hn2 : n ≤ 9223372036854775807) :
    Calls Try.prog 3 #[.slice ao l.length cap, .int .i64 n, .string s] w fun e w' => e = .returned (.bool true) ∧ Below w.heap.size w w' := by
  have hlen := hI.long
  have hT := hI.texts
  obtain ⟨T, hTT⟩ : ∃ T, tab l = T := ⟨_, rfl⟩
  have hr : Ris T := by rw [← hTT]; exact ris_tab l
  have htl : T.length ≤ l.length := by rw [← hTT]; exact tab_length l
  have h1 := twin_any ao cap l w (by omega) hT
  have h2 := fun (W : World) (x : Option Addr) (cx : Nat) (hx : TextsAt W x l) => of_any x cx l W (by omega) hx
  have h3 := fun (W : World) (hb : Below w.heap.size w W) => refOf_any l.length ao cap l W rfl hI.cap (by omega) (hT.below hb (Nat.le_refl _))
  rw [hTT] at h2 h3
  have h4 := fun (W : World) (p : Value) (x : Option Addr) (cx : Nat) (h : TabAt W p T x cx) => txt_any W h n hn2
  have h5 := fun (W : World) (p : Value) (x : Option Addr) (cx : Nat) (h : TabAt W p T x cx) => number_bel W h s
  have h6 := fun (W : World) (x : Option Addr) (cx : Nat) (hx : TextsAt W x T) => number_ref_bel x cx T s W (by omega) hx hr
  have h7 := fun (W : World) (p : Value) (x y : Option Addr) (cx cy : Nat) (h : TabAt W p T x cx) (hy : TextsAt W y T) => is_any W h y cy hy
  have hin := fun h h2 => tS_in (T := T) (n := n) h h2
  have hout := fun h => tS_out (T := T) (n := n) h
  generalize numS T s = ns at *
  generalize numE T s = ne at *
  generalize tS T n = X at *
  generalize tE T n = E at *
  have hl62 : T.length < 4611686018427387904 := by omega
  have H1 := Lib.hid h1
  have H2 := Lib.hid h2
  have H3 := Lib.hid h3
  have H4 := Lib.hid h4
  have H5 := Lib.hid h5
  have H6 := Lib.hid h6
  have H7 := Lib.hid h7
  have HW := Lib.hid wakes_any
  have HIN := Lib.hid hin
  have HOUT := Lib.hid hout
  clear h1 h2 h3 h4 h5 h6 h7 hin hout hr htl hTT hT hI hlen
  go_enter Try.func3, Try.ntmps3
  go_wp2_with (go_at_call 9; ((with_reducible refine H1.out.mono ?_); rintro e w1 ⟨a1, c1, rfl, hrow⟩; obtain ⟨a2, c2, he, _, ht⟩ := hrow.texts; injection he with he1 _ he2; subst he1 he2; have B1 := Lib.hid hrow.below; have T1 := Lib.hid ht; clear hrow ht))
  go_wp2_with (go_at_call 8; ((with_reducible refine (H2.out _ _ _ T1.out).mono ?_); rintro e w2 ⟨p, rfl, hN⟩; obtain ⟨a3, c3, ht⟩ := hN.tab; have T2 := Lib.hid ht; have B2 := Lib.hid (le_below B1.out hN.below); obtain ⟨pb, rfl⟩ := hN.some; clear hN ht))
  go_wp2_with (go_at_call 10; ((with_reducible refine (H3.out _ B2.out).mono ?_); rintro e w3 ⟨v3, rfl, hrow⟩; obtain ⟨a4, c4, rfl, _, ht⟩ := hrow.texts; have T3 := Lib.hid ht; have P3 := Lib.hid (T2.out.below hrow.below (Nat.le_refl _)); have B3 := Lib.hid (le_below B2.out hrow.below); clear hrow ht))
  go_wp2_with (go_at_call 11; ((with_reducible refine (H4.out _ _ _ _ P3.out).mono ?_); rintro e w4 ⟨rfl, rfl⟩))
  go_wp2_with (go_at_call 12; ((with_reducible refine (H5.out _ _ _ _ P3.out).mono ?_); rintro e w5 ⟨rfl, hb⟩; have B5 := Lib.hid (le_below B3.out hb); have P5 := Lib.hid (P3.out.below hb (Nat.le_refl _)); have T5 := Lib.hid (T3.out.below hb (Nat.le_refl _)); clear hb))
  go_wp2_with (go_at_call 13; ((with_reducible refine (H6.out _ _ _ T5.out).mono ?_); rintro e w6 ⟨rfl, hb⟩; have B6 := Lib.hid (le_below B5.out hb); have P6 := Lib.hid (P5.out.below hb (Nat.le_refl _)); have T6 := Lib.hid (T5.out.below hb (Nat.le_refl _)); clear hb))
  go_wp2_with (go_at_call 14; ((with_reducible refine (HW.out _).mono ?_); rintro e w7 ⟨rfl, hb⟩; have B7 := Lib.hid (le_below B6.out hb); have P7 := Lib.hid (P6.out.below hb (Nat.le_refl _)); have T7 := Lib.hid (T6.out.below hb (Nat.le_refl _)); clear hb))
  by_cases h0 : n < 0
  · obtain ⟨rfl, rfl⟩ := HOUT.out (.inl h0)
    go_wp2_with (go_at_call 15; ((with_reducible refine (H7.out _ _ _ _ _ _ P7.out T7.out).mono ?_); rintro e w8 ⟨rfl, hb⟩; have B8 := Lib.hid (le_below B7.out hb); clear hb))
    go_ret
    exact ⟨by first | rfl | exact ret_bool (by simp), B8.out⟩
  · by_cases h9 : n < (T.length : Int)
    · obtain ⟨hX, rfl⟩ := HIN.out (by omega) h9
      subst hX
      obtain ⟨k, rfl⟩ := Int.eq_ofNat_of_zero_le (show 0 ≤ n by omega)
      rw [Int.toNat_natCast] at *
      have hk : k < T.length := by omega
      have hq := Lib.hid fun (W : World) (hb : Below w7.heap.size w7 W) => (T7.out.below hb (Nat.le_refl _)) k hk
      have t1 := str_eq (a := T[k]!) rfl
      go_wp2_with (go_at_call 15; ((with_reducible refine (H7.out _ _ _ _ _ _ P7.out T7.out).mono ?_); rintro e w8 ⟨rfl, hb⟩; have B8 := Lib.hid (le_below B7.out hb); obtain ⟨bq, oq, rfl, _, cq⟩ := hq.out _ hb; clear hb))
      go_ret
      exact ⟨by first | rfl | exact ret_bool (by simp), B8.out⟩
    · obtain ⟨rfl, rfl⟩ := HOUT.out (.inr (by omega))
      go_wp2_with (go_at_call 15; ((with_reducible refine (H7.out _ _ _ _ _ _ P7.out T7.out).mono ?_); rintro e w8 ⟨rfl, hb⟩; have B8 := Lib.hid (le_below B7.out hb); clear hb))
      go_ret
      exact ⟨by first | rfl | exact ret_bool (by simp), B8.out⟩

end Go.Proofs.Ytcpkogboaniehaa.Sym
