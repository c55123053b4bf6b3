/-
  The walk of SymbolsNone. Own text.
-/
import Derived.Test.YtcpkogboaniehaaSLaw
import Derived.Test.YtcpkogboaniehaaSPack2
import Derived.Test.YtcpkogboaniehaaSOpen
namespace Go.Proofs.Ytcpkogboaniehaa.Sym
open Go.RowKit Go Go.Proofs.Ytcpkogboaniehaa.Base Go.Proofs.Ytcpkogboaniehaa.Lab Go.Shelf Go.Sort Go.Proofs.Ytcpkogboaniehaa.Enc

theorem t_none (n : Int) : tS [] n = ByteArray.empty ∧ tE [] n = 50 := by
  unfold tS tE luS luE
  by_cases h0 : n < 0
  · rw [if_pos h0, if_pos h0]; exact ⟨rfl, rfl⟩
  · rw [if_neg h0, if_neg h0]; exact ⟨rfl, rfl⟩
theorem n_none (s : ByteArray) : numS [] s = 0 ∧ numE [] s = 50 := by
  have := numE_out (l := []) (s := s) (fun h => by cases h.1)
  exact ⟨this.2, this.1⟩
theorem e_none : encT [] = ⟨#[0]⟩ := by decide +kernel

set_option maxRecDepth 100000 in
set_option maxHeartbeats 4000000 in
theorem none_walk (ao lo : Option Addr) (cap cl : Nat) (l : List ByteArray) (n : Int) (L : List Lab) (v u : Value) (w : World) (hI : InTexts w v ao cap l) (hn2 : n ≤ 9223372036854775807) (hJ : InLabs w u lo cl L) :
    Calls Try.prog 7 #[.slice ao l.length cap, .int .i64 n, .slice lo L.length cl] w fun e w' => e = .returned (.bool true) ∧ Below w.heap.size w w' := by
  have hlen := hI.long
  have hT := hI.texts
  have hLl := hJ.long
  have h1 := fun (W : World) => txt_any W (TabAt.none) n hn2
  rw [(t_none n).1, (t_none n).2] at h1
  have h2 := fun (W : World) (hb : Below w.heap.size w W) => pack_any W (TabAt.none) lo cl L (by omega) hJ.cap (hJ.labs.below hb (Nat.le_refl _))
  have h3 := fun (W : World) (hb : Below w.heap.size w W) => Go.Proofs.Ytcpkogboaniehaa.Lab.ref_any lo cl L W (by omega) (hJ.labs.below hb (Nat.le_refl _))
  have h4 := fun (W : World) (x : Option Addr) (cx : Nat) (hx : LabsAt W x L) => refPack_any none 0 [] W (by decide) (TextsAt.nil _ _) List.Pairwise.nil x cx L (by omega) hJ.sz hx
  have h5 := fun (W : World) (s : ByteArray) => number_any W (TabAt.none) s
  simp only [(n_none _).1, (n_none _).2] at h5
  have h6 := fun (W : World) (hb : Below w.heap.size w W) => twin_any ao cap l W (by omega) (hT.below hb (Nat.le_refl _))
  have h7 := fun (W : World) (x : Option Addr) (cx : Nat) (hx : TextsAt W x l) => of_any x cx l W (by omega) hx
  have h8 := fun (W : World) => len_any W (TabAt.none)
  have h9 := fun (W : World) => encode_any W (TabAt.none) (fun k hk => by cases hk) (by rw [e_none]; decide)
  rw [e_none] at h9
  have hl62 : l.length < 4611686018427387904 := by omega
  generalize pkS [] L = P at *
  obtain ⟨PS, PE⟩ := P
  have H1 := Lib.hid h1
  have H2 := Lib.hid h2
  have H3 := Lib.hid h3
  have H4 := Lib.hid h4
  have H5 := Lib.hid h5
  have H6 := Lib.hid h6
  have H7 := Lib.hid h7
  have H8 := Lib.hid h8
  have H9 := Lib.hid h9
  have HW := Lib.hid wakes_any
  have HT := Lib.hid hT
  clear h1 h2 h3 h4 h5 h6 h7 h8 h9 hT hI hJ hlen hLl hn2
  have t1 := str_eq (a := ⟨#[0]⟩) rfl
  go_enter Try.func7, Try.ntmps7
  go_wp2_with (first
    | (go_at_call 11; refine (H1.out _).mono ?_; rintro e w1 ⟨rfl, rfl⟩)
    | (go_at_call 19; refine (H2.out _ (Below.refl _ _)).mono ?_; rintro e w2 ⟨rfl, hb⟩; have B2 := Lib.hid hb; clear hb)
    | (go_at_call 16; ((with_reducible refine (H3.out _ B2.out).mono ?_); rintro e w3 ⟨a3, c3, rfl, hrow⟩; obtain ⟨a4, c4, he, _, ht⟩ := hrow.labs; injection he with he1 _ he2; subst he1 he2; have B3 := Lib.hid (le_below B2.out hrow.below); have T3 := Lib.hid ht; clear hrow ht))
    | (go_at_call 20; refine (H4.out _ _ _ T3.out).mono ?_; rintro e w4 ⟨rfl, hb⟩; have B4 := Lib.hid (le_below B3.out hb); clear hb))
  go_loopg [40] l.length (fun r i wr => ∃ (k : Nat), Hid (k + r = l.length) ∧ k ≤ l.length ∧ i = .int .i64 (k : Int) ∧ Hid (Below w.heap.size w wr))
  case atStart => exact ⟨0, Nat.zero_add _, Nat.zero_le _, rfl, B4.out⟩
  case round =>
    obtain ⟨k, hE, hk, rfl, HB⟩ := hrel
    by_cases hlt : k < l.length
    · obtain ⟨b, off, rfl, hbw, q0⟩ := (HT.out.below HB.out (Nat.le_refl _)) k hlt
      have h5 := fun W => H5.out W l[k]!
      generalize l[k]! = x at *
      have G5 := Lib.hid h5
      clear h5
      go_wp2_with (go_at_call 12; refine (G5.out _).mono ?_; rintro e w5 ⟨rfl, q, rfl⟩)
      go_roundg (l.length - (k + 1))
      case measure => have := hE.out; omega
      case rel => exact ⟨k + 1, by show _ = _; omega, by omega, by go_num, below_drewN HB.out q⟩
    · obtain rfl : k = l.length := by omega
      clear hlt
      go_wp2_with (first
        | (go_at_call 9; ((with_reducible refine (H6.out _ HB.out).mono ?_); rintro e w6 ⟨a6, c6, rfl, hrow⟩; obtain ⟨a7, c7, he, _, ht⟩ := hrow.texts; injection he with he1 _ he2; subst he1 he2; have B6 := Lib.hid (le_below HB.out hrow.below); have T6 := Lib.hid ht; clear hrow ht))
        | (go_at_call 8; ((with_reducible refine (H7.out _ _ _ T6.out).mono ?_); rintro e w7 ⟨p, rfl, hN⟩; have B7 := Lib.hid (le_below B6.out hN.below); have T7 := Lib.hid (T6.out.below hN.below (Nat.le_refl _)); clear hN)))
      go_loopg [59] l.length (fun r i wr => ∃ (k : Nat), Hid (k + r = l.length) ∧ k ≤ l.length ∧ i = .int .i64 (k : Int) ∧ Hid (Below w7.heap.size w7 wr))
      case atStart => exact ⟨0, Nat.zero_add _, Nat.zero_le _, rfl, Below.refl _ _⟩
      case round =>
        obtain ⟨k, hE, hk, rfl, HBQ⟩ := hrel
        by_cases hlt : k < l.length
        · obtain ⟨b, off, rfl, hbw, q0⟩ := (HT.out.below (le_below B7.out HBQ.out) (Nat.le_refl _)) k hlt
          obtain ⟨b2, off2, rfl, hbw2, q1⟩ := (T7.out.below HBQ.out (Nat.le_refl _)) k hlt
          generalize l[k]! = x at *
          have e1 := str_eq (a := x) rfl
          go_wp2_with fail
          go_quiet (fail)
          go_wp2_with fail
          go_roundg (l.length - (k + 1))
          case measure => have := hE.out; omega
          case rel => exact ⟨k + 1, by show _ = _; omega, by omega, by go_num, below_drewN HBQ.out _⟩
        · obtain rfl : k = l.length := by omega
          have B8 := Lib.hid (le_below B7.out HBQ.out)
          go_wp2_with (first
            | (go_at_call 14; ((with_reducible refine (HW.out _).mono ?_); rintro e w8 ⟨rfl, hb⟩; have B9 := Lib.hid (le_below B8.out hb); clear hb))
            | (go_at_call 27; refine (H8.out _).mono ?_; rintro e w9 ⟨rfl, rfl⟩)
            | (go_at_call 25; refine (H9.out _).mono ?_; rintro e w10 ⟨rfl, hb⟩; have B10 := Lib.hid (le_below B9.out hb); clear hb))
          go_ret
          exact ⟨by first | rfl | exact ret_bool (by simp), B10.out⟩

end Go.Proofs.Ytcpkogboaniehaa.Sym
