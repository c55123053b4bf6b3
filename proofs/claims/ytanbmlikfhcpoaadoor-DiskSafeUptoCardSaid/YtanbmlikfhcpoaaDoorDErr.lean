/-
  Failures, as the program has them; refused, Off, step. Own text.
-/
import Derived.Test.YtanbmlikfhcpoaaDoorDDisk
namespace Go.Proofs.YtanbmlikfhcpoaaDoor.Disk
open Go.RowKit Go Go.Proofs.YtanbmlikfhcpoaaDoor.Base

/-- a failure as a value: E says where the package's variables lead -/
def errV (E : Nat → Addr) : Nat → Value
  | 0 => .nilIface
  | c + 1 => .iface 129 (.pointer (some (E (c + 1))))

/-- the package's variables -/
structure Env (w : World) (E : Nat → Addr) : Prop where
  max : Max w
  off : w.cell? ⟨0, 0, none⟩ = some (errV E 1)
  name : w.cell? ⟨1, 0, none⟩ = some (errV E 2)
  kind : w.cell? ⟨2, 0, none⟩ = some (errV E 3)
  missing : w.cell? ⟨3, 0, none⟩ = some (errV E 4)
  exists' : w.cell? ⟨4, 0, none⟩ = some (errV E 5)
  space : w.cell? ⟨5, 0, none⟩ = some (errV E 7)

/-- the blocks of the variables: no disk lies there -/
def glob (k : Nat) : Prop := k < 8

theorem Env.turn {S : Nat → Prop} {w w' : World} {E : Nat → Addr} (h : Env w E) (ht : Turn S w w') (hs : ∀ k, k < 8 → ¬ S k) : Env w' E := by
  obtain ⟨m, hm⟩ := h.max
  refine ⟨⟨m, ht.cell hm (hs _ (by decide))⟩, ht.cell h.off (hs _ (by decide)), ht.cell h.name (hs _ (by decide)), ht.cell h.kind (hs _ (by decide)), ht.cell h.missing (hs _ (by decide)), ht.cell h.exists' (hs _ (by decide)),
    ht.cell h.space (hs _ (by decide))⟩

/-- an error as the calls hand it back -/
def refV (B : Nat) : Nat → Value
  | 0 => .nilIface
  | _ => .iface 63 (.pointer (some ⟨B, 0, none⟩))

theorem refused_ok (op path : ByteArray) (w : World) : Calls Tryd.prog 16 #[.string op, .string path, .nilIface] w fun e w' => e = .returned .nilIface ∧ w = w' := by
  go_enter Tryd.func16, Tryd.ntmps16
  go_wp2
  go_ret
  exact ⟨rfl, rfl⟩

theorem refused_no (op path : ByteArray) (E : Nat → Addr) (c : Nat) (w : World) : Calls Tryd.prog 16 #[.string op, .string path, errV E (c + 1)] w fun e w' =>
    e = .returned (refV w.heap.size (c + 1)) ∧ w' = w.alloc (.cells #[.string op, .string path, errV E (c + 1)] 65) := by
  unfold errV refV
  go_enter Tryd.func16, Tryd.ntmps16
  go_wp2
  go_ret
  exact ⟨rfl, rfl⟩

theorem refused_any (op path : ByteArray) (E : Nat → Addr) (c : Nat) (w : World) : Calls Tryd.prog 16 #[.string op, .string path, errV E c] w fun e w' =>
    e = .returned (refV w.heap.size c) ∧ (w' = if c = 0 then w else w.alloc (.cells #[.string op, .string path, errV E c] 65)) := by
  cases c with
  | zero => exact (refused_ok op path w).mono fun e w' ⟨h1, h2⟩ => ⟨h1, h2.symm⟩
  | succ c => exact (refused_no op path E c w).mono fun e w' ⟨h1, h2⟩ => ⟨h1, by rw [if_neg (by omega)]; exact h2⟩

theorem off_nil (w : World) : Calls Tryd.prog 14 #[.pointer none] w fun e w' => e = .returned (.bool true) ∧ w = w' := by
  go_enter Tryd.func14, Tryd.ntmps14
  go_wp2
  go_ret
  exact ⟨rfl, rfl⟩

theorem off_any {w : World} {D : Nat} {G : DiskG} (h : DiskAt w D G) : Calls Tryd.prog 14 #[.pointer (some ⟨D, 0, none⟩)] w fun e w' => e = .returned (.bool G.off) ∧ w = w' := by
  have c5 : w.cell? ⟨D, 5, none⟩ = some (.bool G.off) := h.cell 5
  clear h
  go_enter Tryd.func14, Tryd.ntmps14
  go_wp2
  go_ret
  exact ⟨rfl, rfl⟩

/-- the failure of a step, and the disk behind it -/
def stepCode (G : DiskG) : Nat := if G.crash = 1 then 1 else 0
def ticked (G : DiskG) : DiskG := if G.crash = 1 then { G with off := true } else { G with crash := G.crash - 1 }

set_option maxRecDepth 100000 in
theorem step_any {w : World} {D : Nat} {G : DiskG} {E : Nat → Addr} (h : DiskAt w D G) (he : Env w E) (hc : G.crash < 4611686018427387904) :
    Calls Tryd.prog 41 #[.pointer (some ⟨D, 0, none⟩)] w fun e w' => e = .returned (errV E (stepCode G)) ∧ DiskAt w' D (ticked G) ∧ Turn (fun k => k = D) w w' := by
  have c6 : w.cell? ⟨D, 6, none⟩ = some (.int .i64 (G.crash : Int)) := h.cell 6
  have c5 : w.cell? ⟨D, 5, none⟩ = some (.bool G.off) := h.cell 5
  have f5 := h.fro 5
  have f6 := h.fro 6
  have g0 := he.off
  unfold errV at g0
  unfold stepCode ticked errV
  have HD := Lib.hid h
  clear h he
  by_cases h1 : G.crash = 1
  · have h1i : (G.crash : Int) = 1 := by omega
    rw [h1i] at c6
    rw [if_pos h1, if_pos h1]
    go_enter Tryd.func41, Tryd.ntmps41
    go_wp2
    go_ret
    refine ⟨rfl, ?_, (Turn.refl _ w).set _ _ (fun _ => rfl)⟩
    refine HD.out.set 5 (.bool true) _ (by simp [DiskG.cells, topV, h1]) (fun hp => ⟨hp.cur, hp.dur, hp.trees, hp.row, hp.steps, hp.files, hp.inj, hp.bytes, hp.rows⟩)
  · have h1i : ¬ (G.crash : Int) = 1 := by omega
    rw [if_neg h1, if_neg h1]
    by_cases h0 : G.crash = 0
    · have h0i : (G.crash : Int) = 0 := by omega
      rw [h0i] at c6
      go_enter Tryd.func41, Tryd.ntmps41
      go_wp2
      go_ret
      refine ⟨rfl, ?_, (Turn.refl _ w).set _ _ (fun _ => rfl)⟩
      exact HD.out.set 6 (.int .i64 0) _ (by simp [DiskG.cells, topV]) (fun hp => ⟨hp.cur, hp.dur, hp.trees, hp.row, hp.steps, hp.files, hp.inj, hp.bytes, hp.rows⟩)
    · obtain ⟨q, hq⟩ : ∃ q, G.crash = q + 2 := ⟨G.crash - 2, by omega⟩
      rw [hq] at c6 hc
      have hqi : ¬ (((q + 2 : Nat) : Int)) = 1 := by omega
      have hgt : ¬ (((q + 2 : Nat) : Int) - 1 ≤ 0) := by omega
      go_enter Tryd.func41, Tryd.ntmps41
      go_wp2
      go_ret
      refine ⟨rfl, ?_, (Turn.refl _ w).set _ _ (fun _ => rfl)⟩
      exact HD.out.set 6 (.int .i64 (max ((q : Int) + 2 - 1) 0)) _ (by simp [DiskG.cells, topV]; omega) (fun hp => ⟨hp.cur, hp.dur, hp.trees, hp.row, hp.steps, hp.files, hp.inj, hp.bytes, hp.rows⟩)

end Go.Proofs.YtanbmlikfhcpoaaDoor.Disk
