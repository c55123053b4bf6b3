/-
  The document's Valid: contract. Own text.
-/
import Derived.Test.YtcpkogboaniehaaLRefM
namespace Go.Proofs.Ytcpkogboaniehaa.Lab
open Go.RowKit Go Go.Proofs.Ytcpkogboaniehaa.Base Go.Shelf Go.Sort

set_option maxRecDepth 100000 in
set_option maxHeartbeats 4000000 in
theorem refValid_any (ao : Option Addr) (cap : Nat) (l : List Lab) (w : World) (hl : l.length < 4611686018427387904) (hsz : ∀ j, j < l.length → l[j]!.n.size < 4611686018427387904 ∧ l[j]!.v.size < 4611686018427387904) (hL : LabsAt w ao l) :
    Calls Try.prog 59 #[.slice ao l.length cap] w fun e w' => e = .returned (.bool (validB l)) ∧ Below w.heap.size w w' := by
  have hm := refMake_any ao cap l w hl hsz hL
  have HL := Lib.hid hL
  have HN := Lib.hid hl
  by_cases h0 : chk l = 0
  · rw [h0] at hm
    have HM := Lib.hid hm
    obtain ⟨R, hR⟩ : ∃ R, R = validB l := ⟨_, rfl⟩
    rw [← hR]
    have hfin : (∀ i, i + 1 < l.length → cmpS l[i]!.n l[i + 1]!.n < 0) → R = true := fun h => by rw [hR]; exact (valid_iff l).2 ⟨h0, asc_of_adj h⟩
    have hstop : ∀ i, i + 1 < l.length → ¬ cmpS l[i]!.n l[i + 1]!.n < 0 → R = false := fun i hi h => by
      cases hh : R
      · rfl
      · exact absurd (adj_pair ((valid_iff l).1 (by rw [← hR]; exact hh)).2 (Nat.lt_succ_self i) hi) h
    have HFIN := Lib.hid hfin
    have HSTOP := Lib.hid hstop
    clear hm hL hl hsz h0 hR hfin hstop
    go_enter Try.func59, Try.ntmps59
    go_wp2_with (go_at_call 58; refine HM.out.mono ?_; rintro e w1 ⟨v, rfl, hrow⟩; have HB1 := Lib.hid hrow.below; clear hrow)
    go_loopg [5] l.length (fun r i wr => ∃ k n : Nat, Hid (k + r = l.length) ∧ k ≤ l.length ∧ i = .int .i64 ((k : Int) + 1) ∧ Hid (∀ i, i < k → i + 1 < l.length → cmpS l[i]!.n l[i + 1]!.n < 0) ∧ wr = w1.drewN n)
    case atStart => exact ⟨0, 0, Nat.zero_add _, Nat.zero_le _, rfl, fun i hi => by omega, rfl⟩
    case round =>
      obtain ⟨k, n, hE, hk, rfl, HJ, rfl⟩ := hrel
      have hk2 := HN.out
      by_cases hlt : k + 1 < l.length
      · have hLk := HL.out.below HB1.out (Nat.le_refl _)
        obtain ⟨b, off, rfl, hb, q0, q1⟩ := hLk (k + 1) hlt
        obtain ⟨b', off', e, _, p0, p1⟩ := hLk k (by omega)
        injection e with e
        injection e with e1 e2
        subst e1 e2
        have hst := HSTOP.out k hlt
        have hgo : cmpS l[k]!.n l[k + 1]!.n < 0 → ∀ i, i < k + 1 → i + 1 < l.length → cmpS l[i]!.n l[i + 1]!.n < 0 := fun h i h1 h2 => by
          by_cases e : i = k
          · rw [e]; exact h
          · exact HJ.out i (by omega) h2
        obtain ⟨x, hx⟩ : ∃ x, x = l[k + 1]! := ⟨_, rfl⟩
        obtain ⟨y, hy⟩ : ∃ y, y = l[k]! := ⟨_, rfl⟩
        rw [← hx, ← hy] at hst hgo
        rw [← hx] at q0 q1
        rw [← hy] at p0 p1
        obtain ⟨xn, xv⟩ := x
        obtain ⟨yn, yv⟩ := y
        simp only at q0 q1 p0 p1 hst hgo
        obtain ⟨iN, hiN⟩ : ∃ q, q = k + 1 := ⟨_, rfl⟩
        obtain ⟨jN, hjN⟩ : ∃ q, q = k := ⟨_, rfl⟩
        rw [← hiN] at q0 q1
        rw [← hjN] at p0 p1
        have ea : ((k : Int) + 1).toNat = iN := by omega
        have pa : (0 : Int) ≤ (k : Int) + 1 := by omega
        have ba : (k : Int) + 1 < (l.length : Int) := by omega
        have ra : IntKind.i64.wrap ((k : Int) + 1) = (k : Int) + 1 := IntWalk.i64_in _ (by omega)
        have ec : ((k : Int)).toNat = jN := by omega
        have pc : (0 : Int) ≤ (k : Int) := by omega
        have bc : (k : Int) < (l.length : Int) := by omega
        have rc : IntKind.i64.wrap ((k : Int)) = (k : Int) := IntWalk.i64_in _ (by omega)
        have HST := Lib.hid hst
        have HGO := Lib.hid hgo
        clear hx hy hst hgo hiN hjN hLk
        rcases cmp3 yn xn with ⟨c1, c2, c3, c4, c5⟩ | ⟨c1, c2, c3, c4, c5⟩ | ⟨c1, c2, c3, c4, c5⟩
        · have c6 : (xn.toList == yn.toList) = false := str_ne (fun e => c5 e.symm)
          have hn := HGO.out (by omega)
          have HN2 := Lib.hid hn
          clear c1 c4 c5 hn
          go_wp2_with fail
          go_quiet (fail)
          clear ea ec ra rc
          go_wp2_with fail
          go_roundg (l.length - (k + 1))
          case measure => have := hE.out; omega
          case rel => exact ⟨k + 1, _, by show _ = _; omega, by omega, by first | rfl | go_num | (congr 1), HN2.out, by first | rfl | (simp only [World.drewN_drewN]; rfl)⟩
        · obtain rfl : R = false := HST.out (by omega)
          have c6 : (xn.toList == yn.toList) = true := str_eq c5.symm
          clear c1 c4 c5
          go_wp2_with fail
          go_quiet (fail)
          clear ea ec ra rc
          go_wp2_with fail
          go_ret
          exact ⟨rfl, below_drewN (below_drewN HB1.out _) _⟩
        · obtain rfl : R = false := HST.out (by omega)
          have c6 : (xn.toList == yn.toList) = false := str_ne (fun e => c5 e.symm)
          clear c1 c4 c5
          go_wp2_with fail
          go_quiet (fail)
          clear ea ec ra rc
          go_wp2_with fail
          go_ret
          exact ⟨rfl, below_drewN (below_drewN HB1.out _) _⟩
      · obtain rfl : R = true := HFIN.out (fun i hi => HJ.out i (by omega) hi)
        have hq : ¬ (k : Int) + 1 < (l.length : Int) := by omega
        go_wp2_with fail
        go_ret
        exact ⟨rfl, below_drewN HB1.out _⟩
  · have hv : validB l = false := by
      cases hh : validB l
      · rfl
      · exact absurd (valid_chk hh) h0
    rw [hv]
    have e1 : ((chk l : Int) == 0) = false := by rw [beq_eq_false_iff_ne]; omega
    generalize chk l = E at *
    have HM := Lib.hid hm
    clear hm hL hl hsz h0 hv
    go_enter Try.func59, Try.ntmps59
    go_wp2_with (go_at_call 58; refine HM.out.mono ?_; rintro e w1 ⟨v, rfl, hrow⟩; have HB1 := Lib.hid hrow.below; clear hrow)
    refine wp_loop_rounds 1 ?_
    rw [rounds_succ]
    go_wp2_with fail
    all_goals
      go_ret
      exact ⟨by first | rfl | exact ret_bool e1, HB1.out⟩
end Go.Proofs.Ytcpkogboaniehaa.Lab
