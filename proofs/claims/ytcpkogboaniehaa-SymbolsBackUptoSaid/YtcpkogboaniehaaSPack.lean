/-
  The packed form of a set: contracts of Pack, of the program and of the document's answer. Own text.
-/
import Derived.Test.YtcpkogboaniehaaSRef3
import Derived.Test.YtcpkogboaniehaaLEnc
namespace Go.Proofs.Ytcpkogboaniehaa.Sym
open Go.RowKit Go Go.Proofs.Ytcpkogboaniehaa.Base Go.Proofs.Ytcpkogboaniehaa.Lab Go.Shelf Go.Sort Go.Proofs.Ytcpkogboaniehaa.Enc

/-- the packed labels behind what is packed, or the error -/
def pkAux (T : List ByteArray) : List Lab → ByteArray → ByteArray × Nat
  | [], acc => (acc, 0)
  | x :: r, acc => if numE T x.n ≠ 0 ∨ numE T x.v ≠ 0 then (ByteArray.empty, 50) else pkAux T r (acc ++ uintS (numS T x.n) ++ uintS (numS T x.v))
def pkS (T : List ByteArray) (l : List Lab) : ByteArray × Nat := if setE l ≠ 0 then (ByteArray.empty, setE l) else pkAux T l (uintS l.length)

theorem numE_two (T : List ByteArray) (s : ByteArray) : numE T s = 0 ∨ numE T s = 50 := by
  unfold numE
  split
  · exact .inl rfl
  · exact .inr rfl
theorem pk_go {T : List ByteArray} {l : List Lab} {k : Nat} (hk : k < l.length) {acc : ByteArray} (h1 : numE T l[k]!.n = 0) (h2 : numE T l[k]!.v = 0) : pkAux T (l.drop k) acc = pkAux T (l.drop (k + 1)) (acc ++ uintS (numS T l[k]!.n) ++ uintS (numS T l[k]!.v)) := by
  rw [nth_drop l k hk, pkAux, if_neg (by omega)]
theorem pk_no {T : List ByteArray} {l : List Lab} {k : Nat} (hk : k < l.length) {acc : ByteArray} (h : numE T l[k]!.n ≠ 0 ∨ numE T l[k]!.v ≠ 0) : pkAux T (l.drop k) acc = (ByteArray.empty, 50) := by
  rw [nth_drop l k hk, pkAux, if_pos h]
theorem pk_end (T : List ByteArray) (l : List Lab) (acc : ByteArray) : pkAux T (l.drop l.length) acc = (acc, 0) := by
  rw [List.drop_length]; rfl

theorem number_bel {p : Value} {T : List ByteArray} {ao : Option Addr} {cap : Nat} (w : World) (h : TabAt w p T ao cap) (s : ByteArray) :
    Calls Try.prog 12 #[p, .string s] w fun e w' => e = .returned (.tuple #[.int .i64 (numS T s : Int), .int .i64 (numE T s : Int)]) ∧ Below w.heap.size w w' :=
  (number_any w h s).mono fun e w' ⟨h1, q, h2⟩ => ⟨h1, by rw [h2]; exact drewN_one q⟩

theorem pick0 (x y : ByteArray) (w : World) : (Instr.index 72 (.agg #[.string x, .string y]) (.int .i64 0)).run Try.prog w = .ok (.string x) w := by kernel_rfl
theorem pick1 (x y : ByteArray) (w : World) : (Instr.index 72 (.agg #[.string x, .string y]) (.int .i64 1)).run Try.prog w = .ok (.string y) w := by kernel_rfl

set_option maxRecDepth 100000 in
set_option maxHeartbeats 4000000 in
theorem pack_any {p : Value} {T : List ByteArray} {ao : Option Addr} {cap : Nat} (w : World) (h : TabAt w p T ao cap) (lo : Option Addr) (cl : Nat) (l : List Lab) (hl : l.length < 4611686018427387904) (hcl : l.length ≤ cl) (hL : LabsAt w lo l) :
    Calls Try.prog 19 #[p, .slice lo l.length cl] w fun e w' => e = .returned (.tuple #[.string (pkS T l).1, .int .i64 ((pkS T l).2 : Int)]) ∧ Below w.heap.size w w' := by
  have h1 := Go.Proofs.Ytcpkogboaniehaa.Lab.encode_any lo cl l w hl hcl hL
  by_cases h0 : setE l = 0
  · obtain ⟨PS, PE, hP⟩ : ∃ PS PE, pkS T l = (PS, PE) := ⟨_, _, rfl⟩
    have hP2 : pkAux T l (uintS l.length) = (PS, PE) := by rw [← hP]; unfold pkS; rw [if_neg (by omega)]
    rw [hP]
    rw [h0] at h1
    have hc0 := set_chk h0
    obtain ⟨hl1, hl8⟩ := chk_zero_len hc0
    have hu := fun W => uint_any l.length (by omega) W
    have hus := uintS_size l.length
    have hnum := fun (W : World) (hb : Below w.heap.size w W) (s : ByteArray) => number_bel W (h.below hb (Nat.le_refl _)) s
    have huu := fun (s : ByteArray) W => uint_any (numS T s) (by have := numS_lt T s; have := h.small; omega) W
    have hnb := fun s => (by have := numS_lt T s; have := h.small; omega : numS T s < 4611686018427387904)
    have hns := fun s => uintS_size (numS T s)
    generalize Go.Proofs.Ytcpkogboaniehaa.Lab.encS l = E0 at h1
    have H1 := Lib.hid h1
    have HL := Lib.hid hL
    have HU := Lib.hid hu
    have HNUM := Lib.hid hnum
    have HUU := Lib.hid huu
    have HNB := Lib.hid hnb
    have HNS := Lib.hid hns
    have HUS := Lib.hid hus
    have HN8 := Lib.hid hl8
    have HP0 : Hid (pkAux T (l.drop 0) (uintS l.length) = (PS, PE)) := by rw [List.drop_zero]; exact hP2
    generalize uintS l.length = U at *
    clear h h1 hL hu hnum huu hnb hns hP hP2 hc0 hl1 h0 hus hcl hl
    go_enter Try.func19, Try.ntmps19
    go_wp2_with (first
      | (go_at_call 36; ((with_reducible refine H1.out.mono ?_); rintro e w1 ⟨rfl, hb1⟩; have B1 := Lib.hid hb1; clear hb1))
      | (go_at_call 37; ((with_reducible refine (HU.out _).mono ?_); rintro e w2 ⟨rfl, hb2⟩; have B2 := Lib.hid (le_below B1.out hb2); clear hb2)))
    go_loopg [8, 29] l.length (fun r q i wr => ∃ (k : Nat) (S : ByteArray), Hid (k + r = l.length) ∧ k ≤ l.length ∧ i = .int .i64 (k : Int) ∧ q = .string S ∧ Hid (S.size ≤ 10 + 20 * k) ∧ Hid (pkAux T (l.drop k) S = (PS, PE)) ∧ Hid (Below w.heap.size w wr))
    case atStart => exact ⟨0, U, Nat.zero_add _, Nat.zero_le _, rfl, rfl, by show _ ≤ _; have := HUS.out; omega, HP0.out, B2.out⟩
    case round =>
      clear hl8
      obtain ⟨k, S, hE, hk, rfl, rfl, HSZ, HP, HB⟩ := hrel
      have hk2 := HN8.out
      by_cases hlt : k < l.length
      · obtain ⟨b, off, rfl, _, q0, q1⟩ := (HL.out.below HB.out (Nat.le_refl _)) k hlt
        have hgo := fun h1 h2 => pk_go (T := T) hlt (acc := S) h1 h2
        have hno := fun h => pk_no (T := T) hlt (acc := S) h
        rw [HP.out] at hgo hno
        obtain ⟨x, hx⟩ : ∃ x, x = l[k]! := ⟨_, rfl⟩
        rw [← hx] at q0 q1 hgo hno
        obtain ⟨xn, xv⟩ := x
        simp only at q0 q1 hgo hno
        have hn1 := fun W hb => HNUM.out W hb xn
        have hn2 := fun W hb => HNUM.out W hb xv
        have hu1 := fun W => HUU.out xn W
        have hu2 := fun W => HUU.out xv W
        have nb1 := HNB.out xn
        have nb2 := HNB.out xv
        have z1 := HNS.out xn
        have z2 := HNS.out xv
        have ee1 := numE_two T xn
        have ee2 := numE_two T xv
        generalize numS T xn = a at *
        generalize numS T xv = c at *
        generalize uintS a = A at *
        generalize uintS c = C at *
        have i0 := pick0 xn xv
        have i1 := pick1 xn xv
        have HGO := Lib.hid hgo
        have HNO := Lib.hid hno
        have ssz := HSZ.out
        have g1 : ¬ 9223372036854775807 < S.size + A.size := by omega
        have g2 : ¬ 9223372036854775807 < S.size + A.size + C.size := by omega
        have gz := Lib.hid (show (S ++ A ++ C).size ≤ 10 + 20 * (k + 1) by rw [ByteArray.size_append, ByteArray.size_append]; omega)
        clear hx hgo hno ssz z1 z2
        rcases ee1 with e1 | e1
        · rw [e1] at hn1
          rcases ee2 with e2 | e2
          · rw [e2] at hn2
            have hp := HGO.out e1 e2
            have HP2 := Lib.hid hp
            have HN1 := Lib.hid hn1
            have HN2 := Lib.hid hn2
            have HU1 := Lib.hid hu1
            have HU2 := Lib.hid hu2
            clear hn1 hn2 hu1 hu2 e1 e2 hp HGO HNO HP
            go_wp2_with fail
            refine wp_loop_rounds 3 ?_
            rw [rounds_succ]
            go_wp2_with (first
              | (go_at_call 12; ((with_reducible refine (HN1.out _ (le_below HB.out (below_alloc _ _))).mono ?_); rintro e w3 ⟨rfl, hb⟩; have B3 := Lib.hid (le_below (le_below HB.out (below_alloc _ _)) hb); clear hb))
              | (go_at_call 37; ((with_reducible refine (HU1.out _).mono ?_); rintro e w4 ⟨rfl, hb⟩; have B4 := Lib.hid (le_below B3.out hb); clear hb)))
            rw [rounds_succ]
            go_wp2_with (first
              | (go_at_call 12; ((with_reducible refine (HN2.out _ (B4.out)).mono ?_); rintro e w5 ⟨rfl, hb⟩; have B5 := Lib.hid (le_below (B4.out) hb); clear hb))
              | (go_at_call 37; ((with_reducible refine (HU2.out _).mono ?_); rintro e w6 ⟨rfl, hb⟩; have B6 := Lib.hid (le_below B5.out hb); clear hb)))
            rw [rounds_succ]
            go_wp2_with fail
            go_roundg (l.length - (k + 1))
            case measure => have := hE.out; omega
            case rel => exact ⟨k + 1, S ++ A ++ C, by show _ = _; omega, by omega, by go_num, rfl, gz.out, HP2.out.symm, B6.out⟩
          · rw [e2] at hn2
            have hp := HNO.out (.inr (by omega))
            injection hp with p1 p2
            subst p1 p2
            have HN1 := Lib.hid hn1
            have HN2 := Lib.hid hn2
            have HU1 := Lib.hid hu1
            clear hn1 hn2 hu1 hu2 e1 e2 HGO HNO HP
            go_wp2_with fail
            refine wp_loop_rounds 3 ?_
            rw [rounds_succ]
            go_wp2_with (first
              | (go_at_call 12; ((with_reducible refine (HN1.out _ (le_below HB.out (below_alloc _ _))).mono ?_); rintro e w3 ⟨rfl, hb⟩; have B3 := Lib.hid (le_below (le_below HB.out (below_alloc _ _)) hb); clear hb))
              | (go_at_call 37; ((with_reducible refine (HU1.out _).mono ?_); rintro e w4 ⟨rfl, hb⟩; have B4 := Lib.hid (le_below B3.out hb); clear hb)))
            rw [rounds_succ]
            go_wp2_with (first
              | (go_at_call 12; ((with_reducible refine (HN2.out _ (B4.out)).mono ?_); rintro e w5 ⟨rfl, hb⟩; have B5 := Lib.hid (le_below (B4.out) hb); clear hb))
              | fail)
            go_ret2
            exact ⟨rfl, B5.out⟩
        · rw [e1] at hn1
          have hp := HNO.out (.inl (by omega))
          injection hp with p1 p2
          subst p1 p2
          have HN1 := Lib.hid hn1
          clear hn1 hn2 hu1 hu2 e1 ee2 HGO HNO HP
          go_wp2_with fail
          refine wp_loop_rounds 3 ?_
          rw [rounds_succ]
          go_wp2_with (first
            | (go_at_call 12; ((with_reducible refine (HN1.out _ (le_below HB.out (below_alloc _ _))).mono ?_); rintro e w3 ⟨rfl, hb⟩; have B3 := Lib.hid (le_below (le_below HB.out (below_alloc _ _)) hb); clear hb))
            | fail)
          go_ret2
          exact ⟨rfl, B3.out⟩
      · obtain rfl : k = l.length := by omega
        have hp := HP.out
        rw [pk_end] at hp
        injection hp with p1 p2
        subst p1 p2
        go_wp2_with fail
        go_ret2
        exact ⟨rfl, HB.out⟩
  · have hP : pkS T l = (ByteArray.empty, setE l) := by unfold pkS; rw [if_pos h0]
    rw [hP]
    have e1 : ((setE l : Int) != 0) = true := by rw [bne_iff_ne]; omega
    generalize setE l = R at *
    generalize Go.Proofs.Ytcpkogboaniehaa.Lab.encS l = E0 at h1
    have H1 := Lib.hid h1
    clear h h1 hL h0 hP
    go_enter Try.func19, Try.ntmps19
    go_wp2_with (go_at_call 36; ((with_reducible refine H1.out.mono ?_); rintro e w1 ⟨rfl, hb1⟩))
    go_ret2
    exact ⟨rfl, hb1⟩

end Go.Proofs.Ytcpkogboaniehaa.Sym
