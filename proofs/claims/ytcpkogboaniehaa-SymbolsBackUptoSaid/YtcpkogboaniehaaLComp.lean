/-
  Compare, IsSorted: contracts. Own text.
-/
import Derived.Test.YtcpkogboaniehaaLMem
namespace Go.Proofs.Ytcpkogboaniehaa.Lab
open Go.RowKit Go Go.Proofs.Ytcpkogboaniehaa.Base Go.Shelf Go.Sort

def cmpF : Value := .func (.func 53) #[] #[]

set_option maxRecDepth 100000 in
set_option maxHeartbeats 2000000 in
theorem compareFunc_any (ao bo : Option Addr) (ca cb : Nat) (a b : List Lab) (w : World) (ha : a.length < 4611686018427387904) (hb : b.length < 4611686018427387904) (hA : LabsAt w ao a) (hBb : LabsAt w bo b) :
    Calls Try.prog 52 #[.slice ao a.length ca, .slice bo b.length cb, cmpF] w fun e w' => e = .returned (.int .i64 (cmpL a b)) ∧ Below w.heap.size w w' := by
  obtain ⟨R, hR⟩ : ∃ R, lexL cmpLab (a.drop 0) (b.drop 0) = R := ⟨_, rfl⟩
  rw [List.drop_zero, List.drop_zero] at hR
  rw [show cmpL a b = R from hR]
  have HR : Hid (lexL cmpLab (a.drop 0) (b.drop 0) = R) := hR
  have HA := Lib.hid hA
  have HBb := Lib.hid hBb
  have HNa := Lib.hid ha
  have HNb := Lib.hid hb
  unfold cmpF
  clear hR hA hBb ha hb
  have eg := enters_of Try.func53 (by kernel_rfl) rfl
  go_enter Try.func52, Try.ntmps52
  go_wp2_with fail
  go_loopg [13] a.length (fun r i wr => ∃ k : Nat, Hid (k + r = a.length) ∧ k ≤ a.length ∧ k ≤ b.length ∧ i = .int .i64 (k : Int) ∧ Hid (lexL cmpLab (a.drop k) (b.drop k) = R) ∧ Below w.heap.size w wr)
  case atStart => exact ⟨0, Nat.zero_add _, Nat.zero_le _, Nat.zero_le _, rfl, HR, Below.refl _ _⟩
  case round =>
    obtain ⟨k, hE, hk, hkb, rfl, HK, hB⟩ := hrel
    have hsz := hB.size
    have hk2 := HNa.out
    have hk3 := HNb.out
    by_cases hlt : k < a.length
    · obtain ⟨ba, oa, rfl, hba, q0, q1⟩ := (HA.out.below hB (Nat.le_refl _)) k hlt
      by_cases hltb : k < b.length
      · obtain ⟨bb, ob, rfl, hbb, p0, p1⟩ := (HBb.out.below hB (Nat.le_refl _)) k hltb
        have hst := lexL_step cmpLab a b k hlt hltb
        rw [HK.out] at hst
        have hc := fun W => compareLabels_any a[k]! b[k]! W
        obtain ⟨x, hx⟩ : ∃ x, x = a[k]! := ⟨_, rfl⟩
        obtain ⟨y, hy⟩ : ∃ y, y = b[k]! := ⟨_, rfl⟩
        rw [← hx, ← hy] at hst hc
        rw [← hx] at q0 q1
        rw [← hy] at p0 p1
        generalize cmpLab x y = C at hst hc
        obtain ⟨xn, xv⟩ := x
        obtain ⟨yn, yv⟩ := y
        simp only [Lab.val] at q0 q1 p0 p1 hc
        have HB := Lib.hid hB
        have HC := Lib.hid hc
        clear hx hy hB hc
        by_cases e : C = 0
        · rw [if_neg (by omega)] at hst
          have e1 : (C != 0) = false := by rw [e]; rfl
          have HS := Lib.hid hst.symm
          clear e hst
          go_wp2_with (go_at_call 53; refine (HC.out _).mono ?_; rintro e w2 ⟨rfl, nq, osq, rfl⟩)
          go_roundg (a.length - (k + 1))
          case measure => have := hE.out; omega
          case rel => exact ⟨k + 1, by show _ = _; omega, by omega, by omega, by go_num, HS, ((HB.out.alloc hsz _).alloc (by simp; omega) _).trans ((below_grown _ _).mono (by simp; omega))⟩
        · rw [if_pos e] at hst
          have e1 : (C != 0) = true := by rw [bne_iff_ne]; exact e
          have HS := Lib.hid hst
          clear e hst
          go_wp2_with (go_at_call 53; refine (HC.out _).mono ?_; rintro e w2 ⟨rfl, nq, osq, rfl⟩)
          go_ret
          exact ⟨ret_int HS.out.symm, ((HB.out.alloc hsz _).alloc (by simp; omega) _).trans ((below_grown _ _).mono (by simp; omega))⟩
      · have hst := lexL_long cmpLab a b k hlt (by omega)
        rw [HK.out] at hst
        subst hst
        go_wp2_with fail
        go_ret
        exact ⟨rfl, hB.alloc hsz _⟩
    · obtain rfl : k = a.length := by omega
      by_cases e : a.length < b.length
      · have hst := lexL_short cmpLab a b e
        rw [HK.out] at hst
        subst hst
        go_wp2_with fail
        go_ret
        exact ⟨rfl, hB⟩
      · have hst := lexL_done cmpLab a b (by omega)
        rw [HK.out] at hst
        subst hst
        go_wp2_with fail
        go_ret
        exact ⟨rfl, hB⟩

theorem compare_any (ao bo : Option Addr) (ca cb : Nat) (a b : List Lab) (w : World) (ha : a.length < 4611686018427387904) (hb : b.length < 4611686018427387904) (hA : LabsAt w ao a) (hBb : LabsAt w bo b) :
    Calls Try.prog 28 #[.slice ao a.length ca, .slice bo b.length cb] w fun e w' => e = .returned (.int .i64 (cmpL a b)) ∧ Below w.heap.size w w' := by
  have h := compareFunc_any ao bo ca cb a b w ha hb hA hBb
  unfold cmpF at h
  generalize cmpL a b = R at *
  have H := Lib.hid h
  clear hA hBb h
  go_enter Try.func28, Try.ntmps28
  go_wp2_with (go_at_call 52; refine H.out.mono ?_; rintro e w' ⟨rfl, hB⟩)
  go_ret
  exact ⟨rfl, hB⟩
end Go.Proofs.Ytcpkogboaniehaa.Lab
