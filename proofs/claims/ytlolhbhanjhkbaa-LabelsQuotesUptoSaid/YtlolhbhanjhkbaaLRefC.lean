/-
  The document's Compare: contract. Own text.
-/
import Derived.Test.YtlolhbhanjhkbaaLMem
import Derived.Deep.QuietTactic
import Derived.BigQuiet
namespace Go.Proofs.Ytlolhbhanjhkbaa.Lab
open Go.RowKit Go Go.Proofs.Ytlolhbhanjhkbaa.Base

set_option maxRecDepth 100000 in
set_option maxHeartbeats 2000000 in
theorem refCompare_any (ao bo : Option Addr) (ca cb : Nat) (a b : List Lab) (w : World) (ha : a.length < 4611686018427387904) (hb : b.length < 4611686018427387904) (hA : LabsAt w ao a) (hBb : LabsAt w bo b) :
    Calls Try.prog 21 #[.slice ao a.length ca, .slice bo b.length cb] w fun e w' => e = .returned (.int .i64 (cmpL a b)) ∧ ∃ n, w' = w.drewN n := by
  obtain ⟨R, hR⟩ : ∃ R, lexL cmpLab (a.drop 0) (b.drop 0) = R := ⟨_, rfl⟩
  rw [List.drop_zero, List.drop_zero] at hR
  rw [show cmpL a b = R from hR]
  have HR : Hid (lexL cmpLab (a.drop 0) (b.drop 0) = R) := hR
  have HA := Lib.hid hA
  have HBb := Lib.hid hBb
  have HNa := Lib.hid ha
  have HNb := Lib.hid hb
  clear hR hA hBb ha hb
  go_enter Try.func21, Try.ntmps21
  go_wp2_with fail
  go_loopg [5] a.length (fun r i wr => ∃ k n : Nat, Hid (k + r = a.length) ∧ k ≤ a.length ∧ k ≤ b.length ∧ i = .int .i64 (k : Int) ∧ Hid (lexL cmpLab (a.drop k) (b.drop k) = R) ∧ wr = w.drewN n)
  case atStart => exact ⟨0, 0, Nat.zero_add _, Nat.zero_le _, Nat.zero_le _, rfl, HR, rfl⟩
  case round =>
    obtain ⟨k, n, hE, hk, hkb, rfl, HK, rfl⟩ := hrel
    have hk2 := HNa.out
    have hk3 := HNb.out
    by_cases hlt : k < a.length
    · obtain ⟨ba, oa, rfl, hba, q0, q1⟩ := HA.out k hlt
      by_cases hltb : k < b.length
      · obtain ⟨bb, ob, rfl, hbb, p0, p1⟩ := HBb.out k hltb
        have hst := lexL_step cmpLab a b k hlt hltb
        rw [HK.out] at hst
        obtain ⟨x, hx⟩ : ∃ x, x = a[k]! := ⟨_, rfl⟩
        obtain ⟨y, hy⟩ : ∃ y, y = b[k]! := ⟨_, rfl⟩
        rw [← hx, ← hy] at hst
        rw [← hx] at q0 q1
        rw [← hy] at p0 p1
        obtain ⟨xn, xv⟩ := x
        obtain ⟨yn, yv⟩ := y
        simp only at q0 q1 p0 p1
        have hC : cmpLab ⟨xn, xv⟩ ⟨yn, yv⟩ = if cmpS xn yn ≠ 0 then cmpS xn yn else cmpS xv yv := rfl
        rw [hC] at hst
        clear hx hy hC
        rcases cmp3 xn yn with ⟨c1, c2, c3, c4, c5⟩ | ⟨c1, c2, c3, c4, c5⟩ | ⟨c1, c2, c3, c4, c5⟩
        · obtain rfl : R = -1 := by rw [hst, c1]; simp
          clear c1 c5 hst
          go_wp2_with fail
          go_quiet (fail)
          go_wp2_with fail
          go_ret
          exact ⟨rfl, _, World.drewN_drewN _ _ _⟩
        · have hst2 : R = if cmpS xv yv ≠ 0 then cmpS xv yv else lexL cmpLab (a.drop (k + 1)) (b.drop (k + 1)) := by rw [hst, c1]; simp
          have HS := Lib.hid hst2
          clear c1 c5 hst hst2
          rcases cmp3 xv yv with ⟨d1, d2, d3, d4, d5⟩ | ⟨d1, d2, d3, d4, d5⟩ | ⟨d1, d2, d3, d4, d5⟩
          · obtain rfl : R = -1 := by rw [HS.out, d1]; simp
            clear d1 d5
            go_wp2_with fail
            go_quiet (fail)
            go_wp2_with fail
            go_quiet (fail)
            go_wp2_with fail
            go_quiet (fail)
            go_wp2_with fail
            go_ret
            exact ⟨rfl, _, by first | rfl | (simp only [World.drewN_drewN]; rfl)⟩
          · have hs := HS.out
            rw [d1, if_neg (by decide)] at hs
            have HS2 := Lib.hid hs.symm
            clear d1 d5 hs
            go_wp2_with fail
            go_quiet (fail)
            go_wp2_with fail
            go_quiet (fail)
            go_wp2_with fail
            go_quiet (fail)
            go_wp2_with fail
            go_quiet (fail)
            go_wp2_with fail
            go_roundg (a.length - (k + 1))
            case measure => have := hE.out; omega
            case rel => exact ⟨k + 1, _, by show _ = _; omega, by omega, by omega, by go_num, HS2, by first | rfl | (simp only [World.drewN_drewN]; rfl)⟩
          · obtain rfl : R = 1 := by rw [HS.out, d1]; simp
            clear d1 d5
            go_wp2_with fail
            go_quiet (fail)
            go_wp2_with fail
            go_quiet (fail)
            go_wp2_with fail
            go_quiet (fail)
            go_wp2_with fail
            go_quiet (fail)
            go_wp2_with fail
            go_ret
            exact ⟨rfl, _, by first | rfl | (simp only [World.drewN_drewN]; rfl)⟩
        · obtain rfl : R = 1 := by rw [hst, c1]; simp
          clear c1 c5 hst
          go_wp2_with fail
          go_quiet (fail)
          go_wp2_with fail
          go_quiet (fail)
          go_wp2_with fail
          go_ret
          exact ⟨rfl, _, by first | rfl | (simp only [World.drewN_drewN]; rfl)⟩
      · have hst := lexL_long cmpLab a b k hlt (by omega)
        rw [HK.out] at hst
        subst hst
        go_wp2_with fail
        go_ret
        exact ⟨rfl, _, rfl⟩
    · obtain rfl : k = a.length := by omega
      by_cases e : a.length < b.length
      · have hst := lexL_short cmpLab a b e
        rw [HK.out] at hst
        subst hst
        go_wp2_with fail
        go_ret
        exact ⟨rfl, _, rfl⟩
      · have hst := lexL_done cmpLab a b (by omega)
        rw [HK.out] at hst
        subst hst
        go_wp2_with fail
        go_ret
        exact ⟨rfl, _, rfl⟩
end Go.Proofs.Ytlolhbhanjhkbaa.Lab
