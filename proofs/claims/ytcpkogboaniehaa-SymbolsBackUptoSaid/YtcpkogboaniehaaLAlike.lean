/-
  The laws' helper alike: contract. Own text.
-/
import Derived.Test.YtcpkogboaniehaaLLaw
namespace Go.Proofs.Ytcpkogboaniehaa.Lab
open Go.RowKit Go Go.Proofs.Ytcpkogboaniehaa.Base Go.Shelf Go.Sort

theorem lab_ext {x y : Lab} (h1 : x.n = y.n) (h2 : x.v = y.v) : x = y := by
  cases x; cases y; simp only at h1 h2; rw [h1, h2]
theorem list_ext {a b : List Lab} (h : a.length = b.length) (he : ∀ j, j < a.length → a[j]! = b[j]!) : a = b := by
  apply List.ext_getElem h
  intro i h1 h2
  have := he i h1
  rwa [getElem!_pos a i h1, getElem!_pos b i h2] at this

set_option maxRecDepth 100000 in
set_option maxHeartbeats 2000000 in
theorem alike_any (ao bo : Option Addr) (ca cb : Nat) (a b : List Lab) (w : World) (ha : a.length < 4611686018427387904) (hb : b.length < 4611686018427387904) (hA : LabsAt w ao a) (hBb : LabsAt w bo b) :
    Calls Try.prog 23 #[.slice ao a.length ca, .slice bo b.length cb] w fun e w' => e = .returned (.bool (decide (a = b))) ∧ ∃ n, w' = w.drewN n := by
  by_cases hlen : a.length = b.length
  · obtain ⟨R, hR⟩ : ∃ R, decide (a = b) = R := ⟨_, rfl⟩
    rw [hR]
    have HA := Lib.hid hA
    have HBb := Lib.hid hBb
    have HNa := Lib.hid ha
    have HNb := Lib.hid hb
    have HR := Lib.hid hR
    rw [← hlen]
    have hfin : (∀ j, j < a.length → a[j]! = b[j]!) → R = true := fun h => by rw [← hR]; exact decide_eq_true (list_ext hlen h)
    have hstop : ∀ j, j < a.length → ¬ a[j]! = b[j]! → R = false := fun j hj h => by rw [← hR]; exact decide_eq_false (fun e => h (by rw [e]))
    have HLEN := Lib.hid hlen
    have HFIN := Lib.hid hfin
    have HSTOP := Lib.hid hstop
    clear hR hA hBb ha hb hlen hfin hstop
    have h0 : ((a.length : Int) != (a.length : Int)) = false := by simp
    go_enter Try.func23, Try.ntmps23
    go_wp2_with fail
    go_loopg [13] a.length (fun r i wr => ∃ k n : Nat, Hid (k + r = a.length) ∧ k ≤ a.length ∧ i = .int .i64 (k : Int) ∧ Hid (∀ j, j < k → a[j]! = b[j]!) ∧ wr = w.drewN n)
    case atStart => exact ⟨0, 0, Nat.zero_add _, Nat.zero_le _, rfl, fun j hj => by omega, rfl⟩
    case round =>
      obtain ⟨k, n, hE, hk, rfl, HJ, rfl⟩ := hrel
      have hk2 := HNa.out
      by_cases hlt : k < a.length
      · obtain ⟨ba, oa, rfl, hba, q0, q1⟩ := HA.out k hlt
        obtain ⟨bb, ob, rfl, hbb, p0, p1⟩ := HBb.out k (by rw [← HLEN.out]; exact hlt)
        have hst := HSTOP.out k hlt
        have hgo : a[k]! = b[k]! → ∀ j, j < k + 1 → a[j]! = b[j]! := fun h j hj => by
          by_cases e : j = k
          · rw [e]; exact h
          · exact HJ.out j (by omega)
        obtain ⟨x, hx⟩ : ∃ x, x = a[k]! := ⟨_, rfl⟩
        obtain ⟨y, hy⟩ : ∃ y, y = b[k]! := ⟨_, rfl⟩
        rw [← hx, ← hy] at hst hgo
        rw [← hx] at q0 q1
        rw [← hy] at p0 p1
        obtain ⟨xn, xv⟩ := x
        obtain ⟨yn, yv⟩ := y
        simp only at q0 q1 p0 p1
        have HS := Lib.hid hst
        have HG := Lib.hid hgo
        clear hx hy hst hgo
        by_cases e1 : xn = yn
        · have s1 := str_eq e1
          by_cases e2 : xv = yv
          · have s2 := str_eq e2
            have hn := HG.out (lab_ext e1 e2)
            have HN2 := Lib.hid hn
            clear e1 e2 hn
            go_wp2_with fail
            go_quiet (fail)
            go_wp2_with fail
            go_roundg (a.length - (k + 1))
            case measure => have := hE.out; omega
            case rel => exact ⟨k + 1, _, by show _ = _; omega, by omega, by go_num, HN2.out, by first | rfl | (simp only [World.drewN_drewN]; rfl)⟩
          · have s2 := str_ne e2
            obtain rfl : R = false := HS.out (fun h => e2 (by injection h))
            clear e1 e2
            go_wp2_with fail
            go_quiet (fail)
            go_wp2_with fail
            go_ret
            exact ⟨rfl, _, by first | rfl | (simp only [World.drewN_drewN]; rfl)⟩
        · have s1 := str_ne e1
          obtain rfl : R = false := HS.out (fun h => e1 (by injection h))
          clear e1
          go_wp2_with fail
          go_quiet (fail)
          go_wp2_with fail
          go_ret
          exact ⟨rfl, _, by first | rfl | (simp only [World.drewN_drewN]; rfl)⟩
      · obtain rfl : k = a.length := by omega
        obtain rfl : R = true := HFIN.out HJ.out
        go_wp2_with fail
        go_ret
        exact ⟨rfl, _, rfl⟩
  · rw [decide_eq_false (fun e => hlen (by rw [e]))]
    have h0 : ((a.length : Int) != (b.length : Int)) = true := by rw [bne_iff_ne]; omega
    have HA := Lib.hid hA
    clear hA hBb hlen
    go_enter Try.func23, Try.ntmps23
    go_wp2_with fail
    go_ret
    exact ⟨rfl, 0, rfl⟩
end Go.Proofs.Ytcpkogboaniehaa.Lab
