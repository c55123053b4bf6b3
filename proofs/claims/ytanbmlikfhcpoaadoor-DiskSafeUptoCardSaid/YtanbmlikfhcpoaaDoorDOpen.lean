/-
  A file is found: the contract of open; All, Used, sync. Own text.
-/
import Derived.Test.YtanbmlikfhcpoaaDoorDCreate
namespace Go.Proofs.YtanbmlikfhcpoaaDoor.Disk
open Go.RowKit Go Go.Proofs.YtanbmlikfhcpoaaDoor.Base Go.Proofs.YtanbmlikfhcpoaaDoor.Map

/-- what open answers -/
def openCode (G : DiskG) (p : ByteArray) : Nat :=
  if G.off then 1 else if isPath p = false then 2 else if isFolderG G.gc p = true then 3 else if (fileOf G.gc p).isNone then 4 else 0
def openV (G : DiskG) (p : ByteArray) : Value := if openCode G p = 0 then fileV G.ptr (fileOf G.gc p) else .pointer none

theorem hpd (w : World) (n : Nat) : (w.drewN n).heap = w.heap := rfl

set_option maxRecDepth 100000 in
set_option maxHeartbeats 4000000 in
theorem open_any {w : World} {D : Nat} {G : DiskG} {E : Nat → Addr} (h : DiskAt w D G) (he : Env w E) (p : ByteArray) (hp : p.size < 4294967281) :
    Calls Tryd.prog 29 #[.pointer (some ⟨D, 0, none⟩), .string p] w fun r w' =>
      r = .returned (.tuple #[openV G p, errV E (openCode G p)]) ∧ ∃ n, w' = w.drewN n := by
  have hoff := off_any h
  obtain ⟨l1, _, l3, _, l5⟩ := looks h he.max p hp
  have l3' := fun W => l3 W p
  have g0 := he.off
  have g1 := he.name
  have g2 := he.kind
  have g3 := he.missing
  have L1 := Lib.hid l1
  have L3 := Lib.hid l3'
  have L5 := Lib.hid l5
  clear h he hp l1 l3 l3' l5
  cases ho : G.off
  · rw [ho] at hoff
    cases hP : isPath p
    · rw [hP] at L1
      have e1 : openCode G p = 2 := by simp [openCode, ho, hP]
      have e2 : openV G p = .pointer none := by simp [openV, e1]
      rw [e1, e2]
      unfold errV at g1 ⊢
      go_enter Tryd.func29, Tryd.ntmps29
      go_wp2_with (first | (go_at_call 14; refine hoff.mono ?_; rintro r w2 ⟨rfl, rfl⟩) | (go_at_call 37; ((with_reducible refine (L1.out _ (by first | rfl | exact hpd _ _)).mono ?_); rintro r w2 ⟨rfl, n, rfl⟩)))
      go_quiet (fail)
      go_wp2
      go_ret2
      exact ⟨rfl, _, by first | rfl | exact World.drewN_drewN _ _ _ | (rw [World.drewN_drewN, World.drewN_drewN])⟩
    · rw [hP] at L1
      cases hF : isFolderG G.gc p
      · rw [hF] at L3
        cases hX : fileOf G.gc p with
        | none =>
          rw [hX] at L5
          unfold fileV at L5
          have e1 : openCode G p = 4 := by simp [openCode, ho, hP, hF, hX]
          have e2 : openV G p = .pointer none := by simp [openV, e1]
          rw [e1, e2]
          unfold errV at g3 ⊢
          go_enter Tryd.func29, Tryd.ntmps29
          go_wp2_with (first | (go_at_call 14; refine hoff.mono ?_; rintro r w2 ⟨rfl, rfl⟩) | (go_at_call 37; ((with_reducible refine (L1.out _ (by first | rfl | exact hpd _ _)).mono ?_); rintro r w2 ⟨rfl, n, rfl⟩)) | (go_at_call 31; ((with_reducible refine (L3.out _ (by first | rfl | exact hpd _ _)).mono ?_); rintro r w2 ⟨rfl, rfl⟩)) | (go_at_call 26; ((with_reducible refine (L5.out _ (by first | rfl | exact hpd _ _)).mono ?_); rintro r w2 ⟨rfl, n2, rfl⟩)))
          go_quiet (fail)
          go_wp2
          go_ret2
          exact ⟨rfl, _, by first | rfl | exact World.drewN_drewN _ _ _ | (rw [World.drewN_drewN, World.drewN_drewN])⟩
        | some i =>
          rw [hX] at L5
          unfold fileV ptrV at L5
          have e1 : openCode G p = 0 := by simp [openCode, ho, hP, hF, hX]
          have e2 : openV G p = .pointer (some ⟨G.ptr i, 0, none⟩) := by simp [openV, e1, hX, fileV, ptrV]
          rw [e1, e2]
          unfold errV
          go_enter Tryd.func29, Tryd.ntmps29
          go_wp2_with (first | (go_at_call 14; refine hoff.mono ?_; rintro r w2 ⟨rfl, rfl⟩) | (go_at_call 37; ((with_reducible refine (L1.out _ (by first | rfl | exact hpd _ _)).mono ?_); rintro r w2 ⟨rfl, n, rfl⟩)) | (go_at_call 31; ((with_reducible refine (L3.out _ (by first | rfl | exact hpd _ _)).mono ?_); rintro r w2 ⟨rfl, rfl⟩)) | (go_at_call 26; ((with_reducible refine (L5.out _ (by first | rfl | exact hpd _ _)).mono ?_); rintro r w2 ⟨rfl, n2, rfl⟩)))
          go_ret2
          exact ⟨rfl, _, by first | rfl | exact World.drewN_drewN _ _ _ | (rw [World.drewN_drewN, World.drewN_drewN])⟩
      · rw [hF] at L3
        have e1 : openCode G p = 3 := by simp [openCode, ho, hP, hF]
        have e2 : openV G p = .pointer none := by simp [openV, e1]
        rw [e1, e2]
        unfold errV at g2 ⊢
        go_enter Tryd.func29, Tryd.ntmps29
        go_wp2_with (first | (go_at_call 14; refine hoff.mono ?_; rintro r w2 ⟨rfl, rfl⟩) | (go_at_call 37; ((with_reducible refine (L1.out _ (by first | rfl | exact hpd _ _)).mono ?_); rintro r w2 ⟨rfl, n, rfl⟩)) | (go_at_call 31; ((with_reducible refine (L3.out _ (by first | rfl | exact hpd _ _)).mono ?_); rintro r w2 ⟨rfl, rfl⟩)))
        go_quiet (fail)
        go_wp2
        go_ret2
        exact ⟨rfl, _, by first | rfl | exact World.drewN_drewN _ _ _ | (rw [World.drewN_drewN, World.drewN_drewN])⟩
  · rw [ho] at hoff
    have e1 : openCode G p = 1 := by simp [openCode, ho]
    have e2 : openV G p = .pointer none := by simp [openV, e1]
    rw [e1, e2]
    unfold errV at g0 ⊢
    go_enter Tryd.func29, Tryd.ntmps29
    go_wp2_with (first | (go_at_call 14; refine hoff.mono ?_; rintro r w2 ⟨rfl, rfl⟩))
    go_quiet (fail)
    go_wp2
    go_ret2
    exact ⟨rfl, _, by first | rfl | exact World.drewN_drewN _ _ _ | (rw [World.drewN_drewN, World.drewN_drewN])⟩

/-- an error in memory: the code, the call's word, the path -/
def ErrAt (w : World) (E : Nat → Addr) (r : Value) (c : Nat) (op path : ByteArray) : Prop :=
  (c = 0 ∧ r = .nilIface) ∨ (c ≠ 0 ∧ ∃ B, r = .iface 63 (.pointer (some ⟨B, 0, none⟩)) ∧ w.heap[B]? = some (.cells #[.string op, .string path, errV E c] 65))

theorem refused_err (op path : ByteArray) (E : Nat → Addr) (c : Nat) (w : World) : Calls Tryd.prog 16 #[.string op, .string path, errV E c] w fun e w' =>
    ∃ r, e = .returned r ∧ ErrAt w' E r c op path ∧ Below w.heap.size w w' := by
  refine (refused_any op path E c w).mono fun e w' ⟨h1, h2⟩ => ?_
  cases c with
  | zero => rw [if_pos rfl] at h2; subst h2; exact ⟨_, h1, .inl ⟨rfl, rfl⟩, Below.refl _ _⟩
  | succ c =>
    rw [if_neg (by omega)] at h2; subst h2
    exact ⟨_, h1, .inr ⟨by omega, _, rfl, heap_alloc_new _ _⟩, below_alloc _ _⟩

end Go.Proofs.YtanbmlikfhcpoaaDoor.Disk
