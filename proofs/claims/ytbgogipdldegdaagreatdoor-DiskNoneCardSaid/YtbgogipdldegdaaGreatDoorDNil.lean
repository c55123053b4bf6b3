/-
  A nil disk: every call is refused. Own text.
-/
import Derived.Test.YtbgogipdldegdaaGreatDoorDWake
namespace Go.Proofs.YtbgogipdldegdaaGreatDoor.Disk
open Go.RowKit Go Go.Proofs.YtbgogipdldegdaaGreatDoor.Base Go.Proofs.YtbgogipdldegdaaGreatDoor.Map

section
variable {w : World} {E : Nat → Addr}

theorem bel (w : World) : Below w.heap.size w w := Below.refl _ _
theorem bel1 (w : World) (o : Obj) : Below w.heap.size w (w.alloc o) := below_alloc _ _
theorem bel2 (w : World) (o o' : Obj) : Below w.heap.size w ((w.alloc o).alloc o') := (below_alloc w o).alloc (by simp) _

theorem env_below {w' : World} (he : Env w E) (hb : Below w.heap.size w w') : Env w' E := he.turn (S := fun _ => False) (Turn.of_below hb) (fun _ _ h => h)

theorem open_nil (he : Env w E) (p : ByteArray) : Calls Tryz.prog 67 #[.pointer none, .string p] w fun r w' => r = .returned (.tuple #[.pointer none, errV E 1]) ∧ Below w.heap.size w w' := by
  have g0 := he.off
  have g1 := fun o => (env_below he (bel1 w o)).off
  have g2 := fun o o' => (env_below he (bel2 w o o')).off
  have ho := off_nil
  unfold errV at g0 g1 g2 ⊢
  clear he
  go_enter Tryz.func67, Tryz.ntmps67
  go_wp2_with (go_at_call 16; refine (ho _).mono ?_; rintro r w2 ⟨rfl, rfl⟩)
  first
    | go_ret
    | (go_quiet (fail)
       go_wp2
       first | go_ret | go_ret2)
  exact ⟨rfl, by first | exact bel _ | exact bel1 _ _ | exact bel2 _ _ _ | exact (bel _).drewN _ | exact (bel1 _ _).drewN _ | exact (bel2 _ _ _).drewN _⟩

theorem mkdir_nil (he : Env w E) (p : ByteArray) : Calls Tryz.prog 68 #[.pointer none, .string p] w fun r w' => r = .returned (errV E 1) ∧ Below w.heap.size w w' := by
  have g0 := he.off
  have g1 := fun o => (env_below he (bel1 w o)).off
  have g2 := fun o o' => (env_below he (bel2 w o o')).off
  have ho := off_nil
  unfold errV at g0 g1 g2 ⊢
  clear he
  go_enter Tryz.func68, Tryz.ntmps68
  go_wp2_with (go_at_call 16; refine (ho _).mono ?_; rintro r w2 ⟨rfl, rfl⟩)
  first
    | go_ret
    | (go_quiet (fail)
       go_wp2
       first | go_ret | go_ret2)
  exact ⟨rfl, by first | exact bel _ | exact bel1 _ _ | exact bel2 _ _ _ | exact (bel _).drewN _ | exact (bel1 _ _).drewN _ | exact (bel2 _ _ _).drewN _⟩

theorem create_nil (he : Env w E) (p : ByteArray) : Calls Tryz.prog 63 #[.pointer none, .string p] w fun r w' => r = .returned (errV E 1) ∧ Below w.heap.size w w' := by
  have g0 := he.off
  have g1 := fun o => (env_below he (bel1 w o)).off
  have g2 := fun o o' => (env_below he (bel2 w o o')).off
  have ho := off_nil
  unfold errV at g0 g1 g2 ⊢
  clear he
  go_enter Tryz.func63, Tryz.ntmps63
  go_wp2_with (go_at_call 16; refine (ho _).mono ?_; rintro r w2 ⟨rfl, rfl⟩)
  first
    | go_ret
    | (go_quiet (fail)
       go_wp2
       first | go_ret | go_ret2)
  exact ⟨rfl, by first | exact bel _ | exact bel1 _ _ | exact bel2 _ _ _ | exact (bel _).drewN _ | exact (bel1 _ _).drewN _ | exact (bel2 _ _ _).drewN _⟩

theorem syncNames_nil (he : Env w E) : Calls Tryz.prog 64 #[.pointer none] w fun r w' => r = .returned (errV E 1) ∧ Below w.heap.size w w' := by
  have g0 := he.off
  have g1 := fun o => (env_below he (bel1 w o)).off
  have g2 := fun o o' => (env_below he (bel2 w o o')).off
  have ho := off_nil
  unfold errV at g0 g1 g2 ⊢
  clear he
  go_enter Tryz.func64, Tryz.ntmps64
  go_wp2_with (go_at_call 16; refine (ho _).mono ?_; rintro r w2 ⟨rfl, rfl⟩)
  first
    | go_ret
    | (go_quiet (fail)
       go_wp2
       first | go_ret | go_ret2)
  exact ⟨rfl, by first | exact bel _ | exact bel1 _ _ | exact bel2 _ _ _ | exact (bel _).drewN _ | exact (bel1 _ _).drewN _ | exact (bel2 _ _ _).drewN _⟩

theorem remove_nil (he : Env w E) (p : ByteArray) : Calls Tryz.prog 76 #[.pointer none, .string p] w fun r w' => r = .returned (errV E 1) ∧ Below w.heap.size w w' := by
  have g0 := he.off
  have g1 := fun o => (env_below he (bel1 w o)).off
  have g2 := fun o o' => (env_below he (bel2 w o o')).off
  have ho := off_nil
  unfold errV at g0 g1 g2 ⊢
  clear he
  go_enter Tryz.func76, Tryz.ntmps76
  go_wp2_with (go_at_call 16; refine (ho _).mono ?_; rintro r w2 ⟨rfl, rfl⟩)
  first
    | go_ret
    | (go_quiet (fail)
       go_wp2
       first | go_ret | go_ret2)
  exact ⟨rfl, by first | exact bel _ | exact bel1 _ _ | exact bel2 _ _ _ | exact (bel _).drewN _ | exact (bel1 _ _).drewN _ | exact (bel2 _ _ _).drewN _⟩

theorem rename_nil (he : Env w E) (p q : ByteArray) : Calls Tryz.prog 75 #[.pointer none, .string p, .string q] w fun r w' => r = .returned (errV E 1) ∧ Below w.heap.size w w' := by
  have g0 := he.off
  have g1 := fun o => (env_below he (bel1 w o)).off
  have g2 := fun o o' => (env_below he (bel2 w o o')).off
  have ho := off_nil
  unfold errV at g0 g1 g2 ⊢
  clear he
  go_enter Tryz.func75, Tryz.ntmps75
  go_wp2_with (go_at_call 16; refine (ho _).mono ?_; rintro r w2 ⟨rfl, rfl⟩)
  first
    | go_ret
    | (go_quiet (fail)
       go_wp2
       first | go_ret | go_ret2)
  exact ⟨rfl, by first | exact bel _ | exact bel1 _ _ | exact bel2 _ _ _ | exact (bel _).drewN _ | exact (bel1 _ _).drewN _ | exact (bel2 _ _ _).drewN _⟩

theorem extend_nil (he : Env w E) (p : ByteArray) (ao : Option Addr) (n cap : Nat) : Calls Tryz.prog 65 #[.pointer none, .string p, .slice ao n cap] w fun r w' => r = .returned (errV E 1) ∧ Below w.heap.size w w' := by
  have ho := open_nil he p
  unfold errV at ho ⊢
  clear he
  go_enter Tryz.func65, Tryz.ntmps65
  go_wp2_with (go_at_call 67; refine ho.mono ?_; rintro r w2 ⟨rfl, hb⟩)
  go_ret
  exact ⟨rfl, hb⟩

theorem shorten_nil (he : Env w E) (p : ByteArray) (n : Int) : Calls Tryz.prog 74 #[.pointer none, .string p, .int .i64 n] w fun r w' => r = .returned (errV E 1) ∧ Below w.heap.size w w' := by
  have ho := open_nil he p
  unfold errV at ho ⊢
  clear he
  go_enter Tryz.func74, Tryz.ntmps74
  go_wp2_with (go_at_call 67; refine ho.mono ?_; rintro r w2 ⟨rfl, hb⟩)
  go_ret
  exact ⟨rfl, hb⟩

theorem sync_nil (he : Env w E) (p : ByteArray) : Calls Tryz.prog 66 #[.pointer none, .string p] w fun r w' => r = .returned (errV E 1) ∧ Below w.heap.size w w' := by
  have ho := open_nil he p
  unfold errV at ho ⊢
  clear he
  go_enter Tryz.func66, Tryz.ntmps66
  go_wp2_with (go_at_call 67; refine ho.mono ?_; rintro r w2 ⟨rfl, hb⟩)
  go_ret
  exact ⟨rfl, hb⟩

theorem flip_nil (he : Env w E) (p : ByteArray) (n m : Int) : Calls Tryz.prog 107 #[.pointer none, .string p, .int .i64 n, .int .u8 m] w fun r w' => r = .returned (errV E 1) ∧ Below w.heap.size w w' := by
  have ho := open_nil he p
  unfold errV at ho ⊢
  clear he
  go_enter Tryz.func107, Tryz.ntmps107
  go_wp2_with (go_at_call 67; refine ho.mono ?_; rintro r w2 ⟨rfl, hb⟩)
  go_ret
  exact ⟨rfl, hb⟩

theorem restart_nil (n : Int) (v : Value) (z : Bool) (w : World) : Calls Tryz.prog 13 #[.pointer none, .int .i64 n, v, .bool z] w fun r w' => r = .returned (.tuple #[]) ∧ w = w' := by
  go_enter Tryz.func13, Tryz.ntmps13
  go_wp2
  first
    | go_end0
    | (refine bodyPost_ret (results_none rfl _ _ _) rfl ?_)
  exact ⟨rfl, rfl⟩

theorem crash_nil (n : Int) (w : World) : Calls Tryz.prog 77 #[.pointer none, .int .i64 n] w fun r w' => r = .returned (.tuple #[]) ∧ w = w' := by
  go_enter Tryz.func77, Tryz.ntmps77
  go_wp2
  first
    | go_end0
    | (refine bodyPost_ret (results_none rfl _ _ _) rfl ?_)
  exact ⟨rfl, rfl⟩

end
end Go.Proofs.YtbgogipdldegdaaGreatDoor.Disk
