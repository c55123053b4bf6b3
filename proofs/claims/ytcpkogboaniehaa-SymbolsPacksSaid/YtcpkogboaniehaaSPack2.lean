/-
  The packed form of a set: contract of the document's answer. Own text.
-/
import Derived.Test.YtcpkogboaniehaaSPack
namespace Go.Proofs.Ytcpkogboaniehaa.Sym
open Go.RowKit Go Go.Proofs.Ytcpkogboaniehaa.Base Go.Proofs.Ytcpkogboaniehaa.Lab Go.Shelf Go.Sort Go.Proofs.Ytcpkogboaniehaa.Enc

theorem number_ref_bel (ao : Option Addr) (cap : Nat) (T : List ByteArray) (s : ByteArray) (w : World) (hl : T.length * 16 ≤ 140737488355328) (hT : TextsAt w ao T) (hr : Ris T) :
    Calls Try.prog 13 #[.slice ao T.length cap, .string s] w fun e w' => e = .returned (.tuple #[.int .i64 (numS T s : Int), .int .i64 (numE T s : Int)]) ∧ Below w.heap.size w w' :=
  (number_ref ao cap T s w hl hT hr).mono fun e w' ⟨h1, q, h2⟩ => ⟨h1, by rw [h2]; exact drewN_one q⟩

set_option maxRecDepth 100000 in
set_option maxHeartbeats 4000000 in
theorem refPack_any (ao : Option Addr) (cap : Nat) (T : List ByteArray) (w : World) (hl : T.length * 16 ≤ 140737488355328) (hT : TextsAt w ao T) (hr : Ris T) (lo : Option Addr) (cl : Nat) (l : List Lab) (hll : l.length < 4611686018427387904) (hsz : ∀ j, j < l.length → l[j]!.n.size < 4611686018427387904 ∧ l[j]!.v.size < 4611686018427387904) (hL : LabsAt w lo l) :
    Calls Try.prog 20 #[.slice ao T.length cap, .slice lo l.length cl] w fun e w' => e = .returned (.tuple #[.string (pkS T l).1, .int .i64 ((pkS T l).2 : Int)]) ∧ Below w.heap.size w w' := by
  have h1 := Go.Proofs.Ytcpkogboaniehaa.Lab.refEncode_any lo cl l w hll hsz hL
  by_cases h0 : setE l = 0
  · obtain ⟨PS, PE, hP⟩ : ∃ PS PE, pkS T l = (PS, PE) := ⟨_, _, rfl⟩
    have hP2 : pkAux T l (uintS l.length) = (PS, PE) := by rw [← hP]; unfold pkS; rw [if_neg (by omega)]
    rw [hP]
    rw [h0] at h1
    have hc0 := set_chk h0
    obtain ⟨hl1, hl8⟩ := chk_zero_len hc0
    have hu := fun W => refUint_any l.length (by omega) W
    have hus := uintS_size l.length
    have hnum := fun (W : World) (hb : Below w.heap.size w W) (s : ByteArray) => number_ref_bel ao cap T s W hl (hT.below hb (Nat.le_refl _)) hr
    have huu := fun (s : ByteArray) W => refUint_any (numS T s) (by have := numS_lt T s; omega) W
    have hnb := fun s => (by have := numS_lt T s; omega : numS T s < 4611686018427387904)
    have hns := fun s => uintS_size (numS T s)
    generalize Go.Proofs.Ytcpkogboaniehaa.Lab.encS l = E0 at h1
    have H1 := Lib.hid h1
    have HL := Lib.hid hL
    have HU := Lib.hid hu
    have HNUM := Lib.hid hnum
    have HUU := Lib.hid huu
    have HNB := Lib.hid hnb
    have HNS := Lib.hid hns
    have HUS := Lib.hid hus
    have HN8 := Lib.hid hl8
    have HP0 : Hid (pkAux T (l.drop 0) (uintS l.length) = (PS, PE)) := by rw [List.drop_zero]; exact hP2
    generalize uintS l.length = U at *
    clear h1 hL hu hnum huu hnb hns hP hP2 hc0 hl1 h0 hus hll hl hT hr hsz
    go_enter Try.func20, Try.ntmps20
    go_wp2_with (first
      | (go_at_call 38; ((with_reducible refine H1.out.mono ?_); rintro e w1 ⟨rfl, hb1⟩; have B1 := Lib.hid hb1; clear hb1))
      | (go_at_call 39; ((with_reducible refine (HU.out _).mono ?_); rintro e w2 ⟨rfl, hb2⟩; have B2 := Lib.hid (le_below B1.out hb2); clear hb2)))
    go_loopg [8, 9] l.length (fun r q i wr => ∃ (k : Nat) (S : ByteArray), Hid (k + r = l.length) ∧ k ≤ l.length ∧ i = .int .i64 (k : Int) ∧ q = .string S ∧ Hid (S.size ≤ 10 + 20 * k) ∧ Hid (pkAux T (l.drop k) S = (PS, PE)) ∧ Hid (Below w.heap.size w wr))
    case atStart => exact ⟨0, U, Nat.zero_add _, Nat.zero_le _, rfl, rfl, by show _ ≤ _; have := HUS.out; omega, HP0.out, B2.out⟩
    case round =>
      clear hl8
      obtain ⟨k, S, hE, hk, rfl, rfl, HSZ, HP, HB⟩ := hrel
      have hk2 := HN8.out
      by_cases hlt : k < l.length
      · obtain ⟨b, off, rfl, hbw, q0, q1⟩ := (HL.out.below HB.out (Nat.le_refl _)) k hlt
        have hgo := fun h1 h2 => pk_go (T := T) hlt (acc := S) h1 h2
        have hno := fun h => pk_no (T := T) hlt (acc := S) h
        rw [HP.out] at hgo hno
        obtain ⟨x, hx⟩ : ∃ x, x = l[k]! := ⟨_, rfl⟩
        rw [← hx] at q0 q1 hgo hno
        obtain ⟨xn, xv⟩ := x
        simp only at q0 q1 hgo hno
        have hn1 := fun W hb => HNUM.out W hb xn
        have hn2 := fun W hb => HNUM.out W hb xv
        have hu1 := fun W => HUU.out xn W
        have hu2 := fun W => HUU.out xv W
        have nb1 := HNB.out xn
        have nb2 := HNB.out xv
        have z1 := HNS.out xn
        have z2 := HNS.out xv
        have ee1 := numE_two T xn
        have ee2 := numE_two T xv
        generalize numS T xn = a at *
        generalize numS T xv = c at *
        generalize uintS a = A at *
        generalize uintS c = C at *
        have HGO := Lib.hid hgo
        have HNO := Lib.hid hno
        have ssz := HSZ.out
        have g1 : ¬ 9223372036854775807 < S.size + A.size := by omega
        have g2 : ¬ 9223372036854775807 < S.size + A.size + C.size := by omega
        have gz := Lib.hid (show (S ++ A ++ C).size ≤ 10 + 20 * (k + 1) by rw [ByteArray.size_append, ByteArray.size_append]; omega)
        have Q1 := Lib.hid fun (W : World) (hb : Below wr.heap.size wr W) => ((hb.cell (p := ⟨b, off + k * 2 + 1, none⟩) hbw).trans q1 : W.cell? ⟨b, off + k * 2 + 1, none⟩ = some (.string xv))
        clear hx hgo hno ssz z1 z2
        rcases ee1 with e1 | e1 <;> rcases ee2 with e2 | e2 <;> rw [e1] at hn1 <;> rw [e2] at hn2
        all_goals
          have HN1 := Lib.hid hn1
          have HN2 := Lib.hid hn2
          have HU1 := Lib.hid hu1
          have HU2 := Lib.hid hu2
          clear hn1 hn2 hu1 hu2
          go_wp2_with (go_at_call 13; ((with_reducible refine (HN1.out _ HB.out).mono ?_); rintro e w3 ⟨rfl, hb⟩; have B3 := Lib.hid (le_below HB.out hb); have q3 := Q1.out _ hb; clear hb))
          go_wp2_with (go_at_call 13; ((with_reducible refine (HN2.out _ B3.out).mono ?_); rintro e w4 ⟨rfl, hb⟩; have B4 := Lib.hid (le_below B3.out hb); clear hb))
        · have hp := HGO.out e1 e2
          have HP2 := Lib.hid hp
          clear hp e1 e2 HGO HNO HP
          go_wp2_with (go_at_call 39; ((with_reducible refine (HU1.out _).mono ?_); rintro e w5 ⟨rfl, hb⟩; have B5 := Lib.hid (le_below B4.out hb); clear hb))
          go_wp2_with (go_at_call 39; ((with_reducible refine (HU2.out _).mono ?_); rintro e w6 ⟨rfl, hb⟩; have B6 := Lib.hid (le_below B5.out hb); clear hb))
          go_roundg (l.length - (k + 1))
          case measure => have := hE.out; omega
          case rel => exact ⟨k + 1, S ++ A ++ C, by show _ = _; omega, by omega, by go_num, rfl, gz.out, HP2.out.symm, B6.out⟩
        all_goals
          have hp := HNO.out (by first | exact .inl (by omega) | exact .inr (by omega))
          injection hp with p1 p2
          subst p1 p2
          go_ret2
          exact ⟨rfl, B4.out⟩
      · obtain rfl : k = l.length := by omega
        have hp := HP.out
        rw [pk_end] at hp
        injection hp with p1 p2
        subst p1 p2
        go_wp2_with fail
        go_ret2
        exact ⟨rfl, HB.out⟩
  · have hP : pkS T l = (ByteArray.empty, setE l) := by unfold pkS; rw [if_pos h0]
    rw [hP]
    have e1 : ((setE l : Int) != 0) = true := by rw [bne_iff_ne]; omega
    generalize setE l = R at *
    generalize Go.Proofs.Ytcpkogboaniehaa.Lab.encS l = E0 at h1
    have H1 := Lib.hid h1
    clear h1 hL h0 hP
    go_enter Try.func20, Try.ntmps20
    go_wp2_with (go_at_call 38; ((with_reducible refine H1.out.mono ?_); rintro e w1 ⟨rfl, hb1⟩))
    go_ret2
    exact ⟨rfl, hb1⟩

end Go.Proofs.Ytcpkogboaniehaa.Sym
