/-
  IsSorted, checkSet, Valid: contracts. Own text.
-/
import Derived.Test.YtcpkogboaniehaaLChk
namespace Go.Proofs.Ytcpkogboaniehaa.Lab
open Go.RowKit Go Go.Proofs.Ytcpkogboaniehaa.Base Go.Shelf Go.Sort

/-- no two neighbours stand the wrong way round -/
def srtB (l : List Lab) : Bool := (List.range (l.length - 1)).all fun i => decide (0 ≤ cmpLab l[i + 1]! l[i]!)
theorem srtB_true {l : List Lab} (h : ∀ i, i + 1 < l.length → 0 ≤ cmpLab l[i + 1]! l[i]!) : srtB l = true := by
  unfold srtB
  rw [List.all_eq_true]
  intro i hi
  rw [List.mem_range] at hi
  simp only [decide_eq_true_eq]
  exact h i (by omega)
theorem srtB_false {l : List Lab} (i : Nat) (hi : i + 1 < l.length) (h : cmpLab l[i + 1]! l[i]! < 0) : srtB l = false := by
  cases hh : srtB l
  · rfl
  · unfold srtB at hh
    rw [List.all_eq_true] at hh
    have := hh i (List.mem_range.2 (by omega))
    simp only [decide_eq_true_eq] at this
    omega
theorem srtB_at {l : List Lab} (h : srtB l = true) (i : Nat) (hi : i + 1 < l.length) : 0 ≤ cmpLab l[i + 1]! l[i]! := by
  by_cases hc : cmpLab l[i + 1]! l[i]! < 0
  · rw [srtB_false i hi hc] at h; cases h
  · omega

set_option maxRecDepth 100000 in
set_option maxHeartbeats 4000000 in
theorem isSorted_any (ao : Option Addr) (cap : Nat) (l : List Lab) (w : World) (hl : l.length < 4611686018427387904) (hL : LabsAt w ao l) :
    Calls Try.prog 64 #[.slice ao l.length cap, .func (.func 53) #[] #[]] w fun e w' => e = .returned (.bool (srtB l)) ∧ Below w.heap.size w w' := by
  have HN := Lib.hid hl
  have HL := Lib.hid hL
  obtain ⟨R, hR⟩ : ∃ R, srtB l = R := ⟨_, rfl⟩
  rw [hR]
  have HR := Lib.hid hR
  clear hR hL
  by_cases h0 : l.length = 0
  · obtain rfl : R = true := by rw [← HR.out]; exact srtB_true (fun i hi => by omega)
    rw [h0]
    clear h0 hl
    go_enter Try.func64, Try.ntmps64
    go_wp2_with fail
    refine wp_loop_rounds 1 ?_
    rw [rounds_succ]
    go_wp2_with fail
    go_ret
    exact ⟨rfl, Below.refl _ _⟩
  obtain ⟨m, hm⟩ : ∃ m, l.length = m + 1 := ⟨l.length - 1, by omega⟩
  have hcast : ((l.length : Nat) : Int) - 1 = (m : Int) := by omega
  have hm2 : m < l.length := by omega
  go_enter Try.func64, Try.ntmps64
  go_wp2_with fail
  go_loopg [5] l.length (fun r i wr => ∃ t : Nat, t ≤ r ∧ t < l.length ∧ i = .int .i64 (t : Int) ∧ Hid (∀ j, t ≤ j → j + 1 < l.length → 0 ≤ cmpLab l[j + 1]! l[j]!) ∧ Below w.heap.size w wr)
  case atStart => exact ⟨m, by omega, by omega, by first | rfl | (congr 1), fun j h1 h2 => by omega, Below.refl _ _⟩
  case round =>
    obtain ⟨t, htr, htl, rfl, HJ, hB⟩ := hrel
    clear hcast hm hm2
    have hsz := hB.size
    rcases Nat.eq_zero_or_pos t with rfl | hpos
    · obtain rfl : R = true := by rw [← HR.out]; exact srtB_true (fun i hi => HJ.out i (Nat.zero_le _) hi)
      go_wp2_with fail
      go_ret
      exact ⟨rfl, hB⟩
    · obtain ⟨u, rfl⟩ : ∃ u, t = u + 1 := ⟨t - 1, by omega⟩
      clear hpos
      have hLk := HL.out.below hB (Nat.le_refl _)
      obtain ⟨b, off, rfl, hb, q0, q1⟩ := hLk (u + 1) htl
      obtain ⟨b', off', e, _, p0, p1⟩ := hLk u (by omega)
      injection e with e
      injection e with e1 e2
      subst e1 e2
      have hc := fun W => compareLabels_any l[u + 1]! l[u]! W
      have hstop := fun h => srtB_false (l := l) u htl h
      obtain ⟨x, hx⟩ : ∃ x, x = l[u + 1]! := ⟨_, rfl⟩
      obtain ⟨y, hy⟩ : ∃ y, y = l[u]! := ⟨_, rfl⟩
      have hgo : 0 ≤ cmpLab x y → ∀ j, u ≤ j → j + 1 < l.length → 0 ≤ cmpLab l[j + 1]! l[j]! := fun h j h1 h2 => by
        by_cases e : j = u
        · rw [e, ← hx, ← hy]; exact h
        · exact HJ.out j (by omega) h2
      rw [← hx, ← hy] at hc hstop
      rw [← hx] at q0 q1
      rw [← hy] at p0 p1
      generalize cmpLab x y = C at hc hstop hgo
      obtain ⟨xn, xv⟩ := x
      obtain ⟨yn, yv⟩ := y
      simp only [Lab.val] at q0 q1 p0 p1 hc
      obtain ⟨iN, hiN⟩ : ∃ q, q = u + 1 := ⟨_, rfl⟩
      obtain ⟨jN, hjN⟩ : ∃ q, q = u := ⟨_, rfl⟩
      rw [← hiN] at q0 q1
      rw [← hjN] at p0 p1
      have Q0 : ∀ n os, (grow (wr.drewN n) os).cell? ⟨b, off + iN * 2, none⟩ = some (.string xn) := fun n os => cell_grown hb q0 n os
      have Q1 : ∀ n os, (grow (wr.drewN n) os).cell? ⟨b, off + iN * 2 + 1, none⟩ = some (.string xv) := fun n os => cell_grown hb q1 n os
      have P0 : ∀ n os, (grow (wr.drewN n) os).cell? ⟨b, off + jN * 2, none⟩ = some (.string yn) := fun n os => cell_grown hb p0 n os
      have P1 : ∀ n os, (grow (wr.drewN n) os).cell? ⟨b, off + jN * 2 + 1, none⟩ = some (.string yv) := fun n os => cell_grown hb p1 n os
      have hk2 := HN.out
      have ea : ((u : Int) + 1).toNat = iN := by omega
      have pa : (0 : Int) ≤ (u : Int) + 1 := by omega
      have ba : (u : Int) + 1 < (l.length : Int) := by omega
      have ra : IntKind.i64.wrap ((u : Int) + 1) = (u : Int) + 1 := IntWalk.i64_in _ (by omega)
      have ec : ((u : Int)).toNat = jN := by omega
      have pc : (0 : Int) ≤ (u : Int) := by omega
      have bc : (u : Int) < (l.length : Int) := by omega
      have rc : IntKind.i64.wrap ((u : Int)) = (u : Int) := IntWalk.i64_in _ (by omega)
      have hqz : ((u + 1 : Nat) : Int) = (u : Int) + 1 := by omega
      rw [hqz]
      have mixed : Try.prog.follows .mixedOrders = true := by kernel_rfl
      have HB := Lib.hid hB
      have HST := Lib.hid hstop
      have HGO := Lib.hid hgo
      clear hx hy hB hstop hgo hiN hjN hLk q0 q1 p0 p1 hqz hb
      by_cases hv : C < 0
      · obtain rfl : R = false := by rw [← HR.out]; exact HST.out hv
        have hd : decide (C < 0) = true := decide_eq_true hv
        clear hv
        go_wp2_with fail
        go_quiet_grown (first | (go_at_call 53; refine Calls.grown_of (hc _)))
        clear ea ec ra rc Q0 Q1 P0 P1 hc
        go_wp2_with fail
        go_ret
        exact ⟨rfl, HB.out.trans ((below_grown _ _).mono hsz)⟩
      · have hd : decide (C < 0) = false := decide_eq_false hv
        have hn := HGO.out (by omega)
        have HN2 := Lib.hid hn
        clear hv hn
        go_wp2_with fail
        go_quiet_grown (first | (go_at_call 53; refine Calls.grown_of (hc _)))
        clear ea ec ra rc Q0 Q1 P0 P1 hc
        go_wp2_with fail
        go_roundg u
        case measure => omega
        case rel => exact ⟨u, Nat.le_refl _, by omega, by first | rfl | go_num | (congr 1; omega), HN2.out, HB.out.trans ((below_grown _ _).mono hsz)⟩

end Go.Proofs.Ytcpkogboaniehaa.Lab
