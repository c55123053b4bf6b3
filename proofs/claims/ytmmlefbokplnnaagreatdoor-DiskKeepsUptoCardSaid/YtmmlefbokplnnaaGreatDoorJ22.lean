/-
  The texts DNil, DNil2, NCode, QTree, DRefN, joined. Own text.
-/
import Derived.Test.YtmmlefbokplnnaaGreatDoorJ21
import Derived.LaidEql
import Derived.Test.YtmmlefbokplnnaaGreatDoorJ20
set_option linter.unusedVariables false
set_option linter.unusedSimpArgs false
namespace Go.Proofs.YtmmlefbokplnnaaGreatDoor.Disk
open Go.RowKit Go Go.Proofs.YtmmlefbokplnnaaGreatDoor.Base Go.Proofs.YtmmlefbokplnnaaGreatDoor.Map

section
variable {w : World} {E : Nat → Addr}

theorem bel (w : World) : Below w.heap.size w w := Below.refl _ _
theorem bel1 (w : World) (o : Obj) : Below w.heap.size w (w.alloc o) := below_alloc _ _
theorem bel2 (w : World) (o o' : Obj) : Below w.heap.size w ((w.alloc o).alloc o') := (below_alloc w o).alloc (by simp) _

theorem env_below {w' : World} (he : Env w E) (hb : Below w.heap.size w w') : Env w' E := he.turn (S := fun _ => False) (Turn.of_below hb) (fun _ _ h => h)

theorem open_nil (he : Env w E) (p : ByteArray) : Calls Tryz.prog 67 #[.pointer none, .string p] w fun r w' => r = .returned (.tuple #[.pointer none, errV E 1]) ∧ Below w.heap.size w w' := by
  have g0 := he.off
  have g1 := fun o => (env_below he (bel1 w o)).off
  have g2 := fun o o' => (env_below he (bel2 w o o')).off
  have ho := off_nil
  unfold errV at g0 g1 g2 ⊢
  clear he
  go_enter Tryz.func67, Tryz.ntmps67
  go_wp2_with (go_at_call 16; refine (ho _).mono ?_; rintro r w2 ⟨rfl, rfl⟩)
  first
    | go_ret
    | (go_quiet (fail)
       go_wp2
       first | go_ret | go_ret2)
  exact ⟨rfl, by first | exact bel _ | exact bel1 _ _ | exact bel2 _ _ _ | exact (bel _).drewN _ | exact (bel1 _ _).drewN _ | exact (bel2 _ _ _).drewN _⟩

theorem mkdir_nil (he : Env w E) (p : ByteArray) : Calls Tryz.prog 68 #[.pointer none, .string p] w fun r w' => r = .returned (errV E 1) ∧ Below w.heap.size w w' := by
  have g0 := he.off
  have g1 := fun o => (env_below he (bel1 w o)).off
  have g2 := fun o o' => (env_below he (bel2 w o o')).off
  have ho := off_nil
  unfold errV at g0 g1 g2 ⊢
  clear he
  go_enter Tryz.func68, Tryz.ntmps68
  go_wp2_with (go_at_call 16; refine (ho _).mono ?_; rintro r w2 ⟨rfl, rfl⟩)
  first
    | go_ret
    | (go_quiet (fail)
       go_wp2
       first | go_ret | go_ret2)
  exact ⟨rfl, by first | exact bel _ | exact bel1 _ _ | exact bel2 _ _ _ | exact (bel _).drewN _ | exact (bel1 _ _).drewN _ | exact (bel2 _ _ _).drewN _⟩

theorem create_nil (he : Env w E) (p : ByteArray) : Calls Tryz.prog 63 #[.pointer none, .string p] w fun r w' => r = .returned (errV E 1) ∧ Below w.heap.size w w' := by
  have g0 := he.off
  have g1 := fun o => (env_below he (bel1 w o)).off
  have g2 := fun o o' => (env_below he (bel2 w o o')).off
  have ho := off_nil
  unfold errV at g0 g1 g2 ⊢
  clear he
  go_enter Tryz.func63, Tryz.ntmps63
  go_wp2_with (go_at_call 16; refine (ho _).mono ?_; rintro r w2 ⟨rfl, rfl⟩)
  first
    | go_ret
    | (go_quiet (fail)
       go_wp2
       first | go_ret | go_ret2)
  exact ⟨rfl, by first | exact bel _ | exact bel1 _ _ | exact bel2 _ _ _ | exact (bel _).drewN _ | exact (bel1 _ _).drewN _ | exact (bel2 _ _ _).drewN _⟩

theorem syncNames_nil (he : Env w E) : Calls Tryz.prog 64 #[.pointer none] w fun r w' => r = .returned (errV E 1) ∧ Below w.heap.size w w' := by
  have g0 := he.off
  have g1 := fun o => (env_below he (bel1 w o)).off
  have g2 := fun o o' => (env_below he (bel2 w o o')).off
  have ho := off_nil
  unfold errV at g0 g1 g2 ⊢
  clear he
  go_enter Tryz.func64, Tryz.ntmps64
  go_wp2_with (go_at_call 16; refine (ho _).mono ?_; rintro r w2 ⟨rfl, rfl⟩)
  first
    | go_ret
    | (go_quiet (fail)
       go_wp2
       first | go_ret | go_ret2)
  exact ⟨rfl, by first | exact bel _ | exact bel1 _ _ | exact bel2 _ _ _ | exact (bel _).drewN _ | exact (bel1 _ _).drewN _ | exact (bel2 _ _ _).drewN _⟩

theorem remove_nil (he : Env w E) (p : ByteArray) : Calls Tryz.prog 76 #[.pointer none, .string p] w fun r w' => r = .returned (errV E 1) ∧ Below w.heap.size w w' := by
  have g0 := he.off
  have g1 := fun o => (env_below he (bel1 w o)).off
  have g2 := fun o o' => (env_below he (bel2 w o o')).off
  have ho := off_nil
  unfold errV at g0 g1 g2 ⊢
  clear he
  go_enter Tryz.func76, Tryz.ntmps76
  go_wp2_with (go_at_call 16; refine (ho _).mono ?_; rintro r w2 ⟨rfl, rfl⟩)
  first
    | go_ret
    | (go_quiet (fail)
       go_wp2
       first | go_ret | go_ret2)
  exact ⟨rfl, by first | exact bel _ | exact bel1 _ _ | exact bel2 _ _ _ | exact (bel _).drewN _ | exact (bel1 _ _).drewN _ | exact (bel2 _ _ _).drewN _⟩

theorem rename_nil (he : Env w E) (p q : ByteArray) : Calls Tryz.prog 75 #[.pointer none, .string p, .string q] w fun r w' => r = .returned (errV E 1) ∧ Below w.heap.size w w' := by
  have g0 := he.off
  have g1 := fun o => (env_below he (bel1 w o)).off
  have g2 := fun o o' => (env_below he (bel2 w o o')).off
  have ho := off_nil
  unfold errV at g0 g1 g2 ⊢
  clear he
  go_enter Tryz.func75, Tryz.ntmps75
  go_wp2_with (go_at_call 16; refine (ho _).mono ?_; rintro r w2 ⟨rfl, rfl⟩)
  first
    | go_ret
    | (go_quiet (fail)
       go_wp2
       first | go_ret | go_ret2)
  exact ⟨rfl, by first | exact bel _ | exact bel1 _ _ | exact bel2 _ _ _ | exact (bel _).drewN _ | exact (bel1 _ _).drewN _ | exact (bel2 _ _ _).drewN _⟩

theorem extend_nil (he : Env w E) (p : ByteArray) (ao : Option Addr) (n cap : Nat) : Calls Tryz.prog 65 #[.pointer none, .string p, .slice ao n cap] w fun r w' => r = .returned (errV E 1) ∧ Below w.heap.size w w' := by
  have ho := open_nil he p
  unfold errV at ho ⊢
  clear he
  go_enter Tryz.func65, Tryz.ntmps65
  go_wp2_with (go_at_call 67; refine ho.mono ?_; rintro r w2 ⟨rfl, hb⟩)
  go_ret
  exact ⟨rfl, hb⟩

theorem shorten_nil (he : Env w E) (p : ByteArray) (n : Int) : Calls Tryz.prog 74 #[.pointer none, .string p, .int .i64 n] w fun r w' => r = .returned (errV E 1) ∧ Below w.heap.size w w' := by
  have ho := open_nil he p
  unfold errV at ho ⊢
  clear he
  go_enter Tryz.func74, Tryz.ntmps74
  go_wp2_with (go_at_call 67; refine ho.mono ?_; rintro r w2 ⟨rfl, hb⟩)
  go_ret
  exact ⟨rfl, hb⟩

theorem sync_nil (he : Env w E) (p : ByteArray) : Calls Tryz.prog 66 #[.pointer none, .string p] w fun r w' => r = .returned (errV E 1) ∧ Below w.heap.size w w' := by
  have ho := open_nil he p
  unfold errV at ho ⊢
  clear he
  go_enter Tryz.func66, Tryz.ntmps66
  go_wp2_with (go_at_call 67; refine ho.mono ?_; rintro r w2 ⟨rfl, hb⟩)
  go_ret
  exact ⟨rfl, hb⟩

theorem flip_nil (he : Env w E) (p : ByteArray) (n m : Int) : Calls Tryz.prog 107 #[.pointer none, .string p, .int .i64 n, .int .u8 m] w fun r w' => r = .returned (errV E 1) ∧ Below w.heap.size w w' := by
  have ho := open_nil he p
  unfold errV at ho ⊢
  clear he
  go_enter Tryz.func107, Tryz.ntmps107
  go_wp2_with (go_at_call 67; refine ho.mono ?_; rintro r w2 ⟨rfl, hb⟩)
  go_ret
  exact ⟨rfl, hb⟩

theorem restart_nil (n : Int) (v : Value) (z : Bool) (w : World) : Calls Tryz.prog 13 #[.pointer none, .int .i64 n, v, .bool z] w fun r w' => r = .returned (.tuple #[]) ∧ w = w' := by
  go_enter Tryz.func13, Tryz.ntmps13
  go_wp2
  first
    | go_end0
    | (refine bodyPost_ret (results_none rfl _ _ _) rfl ?_)
  exact ⟨rfl, rfl⟩

theorem crash_nil (n : Int) (w : World) : Calls Tryz.prog 77 #[.pointer none, .int .i64 n] w fun r w' => r = .returned (.tuple #[]) ∧ w = w' := by
  go_enter Tryz.func77, Tryz.ntmps77
  go_wp2
  first
    | go_end0
    | (refine bodyPost_ret (results_none rfl _ _ _) rfl ?_)
  exact ⟨rfl, rfl⟩

end
end Go.Proofs.YtmmlefbokplnnaaGreatDoor.Disk

namespace Go.Proofs.YtmmlefbokplnnaaGreatDoor.Disk
open Go.RowKit Go Go.Proofs.YtmmlefbokplnnaaGreatDoor.Base Go.Proofs.YtmmlefbokplnnaaGreatDoor.Map

section
variable {w : World} {E : Nat → Addr}

theorem Mkdir_nil (he : Env w E) (p : ByteArray) : Calls Tryz.prog 26 #[.pointer none, .string p] w fun r w' => ∃ v, r = .returned v ∧ ErrAt w' E v 1 ⟨#[109, 107, 100, 105, 114]⟩ p ∧ Below w.heap.size w w' := by
  have h1 := mkdir_nil he p
  have h2 := fun W => refused_err ⟨#[109, 107, 100, 105, 114]⟩ p E 1 W
  have H1 := Lib.hid h1
  have H2 := Lib.hid h2
  clear he h1 h2
  go_enter Tryz.func26, Tryz.ntmps26
  go_wp2_with (first
    | (go_at_call 68; ((with_reducible refine H1.out.mono ?_); rintro r w2 ⟨rfl, hb2⟩))
    | (go_at_call 55; ((with_reducible refine (H2.out _).mono ?_); rintro r w3 ⟨v, rfl, hv, hb⟩)))
  go_ret
  exact ⟨_, rfl, hv, hb2.trans (hb.mono hb2.size)⟩

theorem Create_nil (he : Env w E) (p : ByteArray) : Calls Tryz.prog 20 #[.pointer none, .string p] w fun r w' => ∃ v, r = .returned v ∧ ErrAt w' E v 1 ⟨#[99, 114, 101, 97, 116, 101]⟩ p ∧ Below w.heap.size w w' := by
  have h1 := create_nil he p
  have h2 := fun W => refused_err ⟨#[99, 114, 101, 97, 116, 101]⟩ p E 1 W
  have H1 := Lib.hid h1
  have H2 := Lib.hid h2
  clear he h1 h2
  go_enter Tryz.func20, Tryz.ntmps20
  go_wp2_with (first
    | (go_at_call 63; ((with_reducible refine H1.out.mono ?_); rintro r w2 ⟨rfl, hb2⟩))
    | (go_at_call 55; ((with_reducible refine (H2.out _).mono ?_); rintro r w3 ⟨v, rfl, hv, hb⟩)))
  go_ret
  exact ⟨_, rfl, hv, hb2.trans (hb.mono hb2.size)⟩

theorem Cut_nil (he : Env w E) (p : ByteArray) (n : Int) : Calls Tryz.prog 31 #[.pointer none, .string p, .int .i64 n] w fun r w' => ∃ v, r = .returned v ∧ ErrAt w' E v 1 ⟨#[99, 117, 116]⟩ p ∧ Below w.heap.size w w' := by
  have h1 := shorten_nil he p n
  have h2 := fun W => refused_err ⟨#[99, 117, 116]⟩ p E 1 W
  have H1 := Lib.hid h1
  have H2 := Lib.hid h2
  clear he h1 h2
  go_enter Tryz.func31, Tryz.ntmps31
  go_wp2_with (first
    | (go_at_call 74; ((with_reducible refine H1.out.mono ?_); rintro r w2 ⟨rfl, hb2⟩))
    | (go_at_call 55; ((with_reducible refine (H2.out _).mono ?_); rintro r w3 ⟨v, rfl, hv, hb⟩)))
  go_ret
  exact ⟨_, rfl, hv, hb2.trans (hb.mono hb2.size)⟩

theorem Sync_nil (he : Env w E) (p : ByteArray) : Calls Tryz.prog 23 #[.pointer none, .string p] w fun r w' => ∃ v, r = .returned v ∧ ErrAt w' E v 1 ⟨#[115, 121, 110, 99]⟩ p ∧ Below w.heap.size w w' := by
  have h1 := sync_nil he p
  have h2 := fun W => refused_err ⟨#[115, 121, 110, 99]⟩ p E 1 W
  have H1 := Lib.hid h1
  have H2 := Lib.hid h2
  clear he h1 h2
  go_enter Tryz.func23, Tryz.ntmps23
  go_wp2_with (first
    | (go_at_call 66; ((with_reducible refine H1.out.mono ?_); rintro r w2 ⟨rfl, hb2⟩))
    | (go_at_call 55; ((with_reducible refine (H2.out _).mono ?_); rintro r w3 ⟨v, rfl, hv, hb⟩)))
  go_ret
  exact ⟨_, rfl, hv, hb2.trans (hb.mono hb2.size)⟩

theorem SyncNames_nil (he : Env w E)  : Calls Tryz.prog 21 #[.pointer none] w fun r w' => ∃ v, r = .returned v ∧ ErrAt w' E v 1 ⟨#[110, 97, 109, 101, 115]⟩ ⟨#[]⟩ ∧ Below w.heap.size w w' := by
  have h1 := syncNames_nil he 
  have h2 := fun W => refused_err ⟨#[110, 97, 109, 101, 115]⟩ ⟨#[]⟩ E 1 W
  have H1 := Lib.hid h1
  have H2 := Lib.hid h2
  clear he h1 h2
  go_enter Tryz.func21, Tryz.ntmps21
  go_wp2_with (first
    | (go_at_call 64; ((with_reducible refine H1.out.mono ?_); rintro r w2 ⟨rfl, hb2⟩))
    | (go_at_call 55; ((with_reducible refine (H2.out _).mono ?_); rintro r w3 ⟨v, rfl, hv, hb⟩)))
  go_ret
  exact ⟨_, rfl, hv, hb2.trans (hb.mono hb2.size)⟩

theorem Rename_nil (he : Env w E) (p : ByteArray) (q : ByteArray) : Calls Tryz.prog 35 #[.pointer none, .string p, .string q] w fun r w' => ∃ v, r = .returned v ∧ ErrAt w' E v 1 ⟨#[114, 101, 110, 97, 109, 101]⟩ p ∧ Below w.heap.size w w' := by
  have h1 := rename_nil he p q
  have h2 := fun W => refused_err ⟨#[114, 101, 110, 97, 109, 101]⟩ p E 1 W
  have H1 := Lib.hid h1
  have H2 := Lib.hid h2
  clear he h1 h2
  go_enter Tryz.func35, Tryz.ntmps35
  go_wp2_with (first
    | (go_at_call 75; ((with_reducible refine H1.out.mono ?_); rintro r w2 ⟨rfl, hb2⟩))
    | (go_at_call 55; ((with_reducible refine (H2.out _).mono ?_); rintro r w3 ⟨v, rfl, hv, hb⟩)))
  go_ret
  exact ⟨_, rfl, hv, hb2.trans (hb.mono hb2.size)⟩

theorem Remove_nil (he : Env w E) (p : ByteArray) : Calls Tryz.prog 37 #[.pointer none, .string p] w fun r w' => ∃ v, r = .returned v ∧ ErrAt w' E v 1 ⟨#[114, 101, 109, 111, 118, 101]⟩ p ∧ Below w.heap.size w w' := by
  have h1 := remove_nil he p
  have h2 := fun W => refused_err ⟨#[114, 101, 109, 111, 118, 101]⟩ p E 1 W
  have H1 := Lib.hid h1
  have H2 := Lib.hid h2
  clear he h1 h2
  go_enter Tryz.func37, Tryz.ntmps37
  go_wp2_with (first
    | (go_at_call 76; ((with_reducible refine H1.out.mono ?_); rintro r w2 ⟨rfl, hb2⟩))
    | (go_at_call 55; ((with_reducible refine (H2.out _).mono ?_); rintro r w3 ⟨v, rfl, hv, hb⟩)))
  go_ret
  exact ⟨_, rfl, hv, hb2.trans (hb.mono hb2.size)⟩

theorem Flip_nil (he : Env w E) (p : ByteArray) (n : Int) (m : Int) : Calls Tryz.prog 79 #[.pointer none, .string p, .int .i64 n, .int .u8 m] w fun r w' => ∃ v, r = .returned v ∧ ErrAt w' E v 1 ⟨#[102, 108, 105, 112]⟩ p ∧ Below w.heap.size w w' := by
  have h1 := flip_nil he p n m
  have h2 := fun W => refused_err ⟨#[102, 108, 105, 112]⟩ p E 1 W
  have H1 := Lib.hid h1
  have H2 := Lib.hid h2
  clear he h1 h2
  go_enter Tryz.func79, Tryz.ntmps79
  go_wp2_with (first
    | (go_at_call 107; ((with_reducible refine H1.out.mono ?_); rintro r w2 ⟨rfl, hb2⟩))
    | (go_at_call 55; ((with_reducible refine (H2.out _).mono ?_); rintro r w3 ⟨v, rfl, hv, hb⟩)))
  go_ret
  exact ⟨_, rfl, hv, hb2.trans (hb.mono hb2.size)⟩

theorem Append_nil (he : Env w E) (p : ByteArray) (ao : Option Addr) (n cap : Nat) : Calls Tryz.prog 22 #[.pointer none, .string p, .slice ao n cap] w fun r w' => ∃ v, r = .returned v ∧ ErrAt w' E v 1 ⟨#[97, 112, 112, 101, 110, 100]⟩ p ∧ Below w.heap.size w w' := by
  have h1 := extend_nil he p ao n cap
  have h2 := fun W => refused_err ⟨#[97, 112, 112, 101, 110, 100]⟩ p E 1 W
  have H1 := Lib.hid h1
  have H2 := Lib.hid h2
  clear he h1 h2
  go_enter Tryz.func22, Tryz.ntmps22
  go_wp2_with (first
    | (go_at_call 65; ((with_reducible refine H1.out.mono ?_); rintro r w2 ⟨rfl, hb2⟩))
    | (go_at_call 55; ((with_reducible refine (H2.out _).mono ?_); rintro r w3 ⟨v, rfl, hv, hb⟩)))
  go_ret
  exact ⟨_, rfl, hv, hb2.trans (hb.mono hb2.size)⟩

theorem Read_nil (he : Env w E) (p : ByteArray) (n : Int) (m : Int) : Calls Tryz.prog 39 #[.pointer none, .string p, .int .i64 n, .int .i64 m] w fun r w' => ∃ v, r = .returned (.tuple #[.string ⟨#[]⟩, v]) ∧ ErrAt w' E v 1 ⟨#[114, 101, 97, 100]⟩ p ∧ Below w.heap.size w w' := by
  have h1 := open_nil he p
  have h2 := fun W => refused_err ⟨#[114, 101, 97, 100]⟩ p E 1 W
  have H1 := Lib.hid h1
  have H2 := Lib.hid h2
  unfold errV at H1 H2
  clear he h1 h2
  go_enter Tryz.func39, Tryz.ntmps39
  go_wp2_with (first
    | (go_at_call 67; ((with_reducible refine H1.out.mono ?_); rintro r w2 ⟨rfl, hb2⟩))
    | (go_at_call 55; ((with_reducible refine (H2.out _).mono ?_); rintro r w3 ⟨v, rfl, hv, hb⟩)))
  go_ret2
  exact ⟨_, rfl, hv, hb2.trans (hb.mono hb2.size)⟩

theorem All_nil (he : Env w E) (p : ByteArray) : Calls Tryz.prog 24 #[.pointer none, .string p] w fun r w' => ∃ v, r = .returned (.tuple #[.string ⟨#[]⟩, v]) ∧ ErrAt w' E v 1 ⟨#[114, 101, 97, 100]⟩ p ∧ Below w.heap.size w w' := by
  have h1 := open_nil he p
  have h2 := fun W => refused_err ⟨#[114, 101, 97, 100]⟩ p E 1 W
  have H1 := Lib.hid h1
  have H2 := Lib.hid h2
  unfold errV at H1 H2
  clear he h1 h2
  go_enter Tryz.func24, Tryz.ntmps24
  go_wp2_with (first
    | (go_at_call 67; ((with_reducible refine H1.out.mono ?_); rintro r w2 ⟨rfl, hb2⟩))
    | (go_at_call 55; ((with_reducible refine (H2.out _).mono ?_); rintro r w3 ⟨v, rfl, hv, hb⟩)))
  go_ret2
  exact ⟨_, rfl, hv, hb2.trans (hb.mono hb2.size)⟩

theorem List_nil (he : Env w E) (p : ByteArray) : Calls Tryz.prog 17 #[.pointer none, .string p] w fun r w' => ∃ v, r = .returned (.tuple #[.slice none 0 0, v]) ∧ ErrAt w' E v 1 ⟨#[108, 105, 115, 116]⟩ p ∧ Below w.heap.size w w' := by
  have g0 := he.off
  have ho := off_nil
  have h2 := fun W => refused_err ⟨#[108, 105, 115, 116]⟩ p E 1 W
  have H2 := Lib.hid h2
  unfold errV at g0 H2
  clear he h2
  go_enter Tryz.func17, Tryz.ntmps17
  go_wp2_with (first
    | (go_at_call 16; refine (ho _).mono ?_; rintro r w2 ⟨rfl, rfl⟩)
    | (go_at_call 55; ((with_reducible refine (H2.out _).mono ?_); rintro r w3 ⟨v, rfl, hv, hb⟩)))
  go_ret2
  exact ⟨_, rfl, hv, hb⟩

theorem as_err (W : World) (v : Value) : (Instr.typeAssert (.iface 111 v) 48 111 true).run Tryz.prog W = .ok (.tuple #[v, .bool true]) W := by kernel_rfl

theorem info_es : (Tryz.prog.info? 185).map (·.comparable) = some true := by kernel_rfl
theorem info_eo : (Tryz.prog.info? 201).isSome = true := by kernel_rfl
theorem err_same (W : World) (a : Addr) : (binOp .eql 48 (.iface 185 (.pointer (some a))) (.iface 185 (.pointer (some a)))).run Tryz.prog W = .ok (.bool true) W := by
  obtain ⟨i, hi, hc⟩ := Option.map_eq_some_iff.1 info_es
  obtain ⟨j, hj⟩ := Option.isSome_iff_exists.1 info_eo
  exact run_eql_iface_ptr_same W a Tryz.underlying48 Tryz.underlying185 hi hc hj

set_option maxRecDepth 100000 in
set_option maxHeartbeats 2000000 in
theorem code_off (he : Env w E) (v : Value) (op p : ByteArray) (hv : ErrAt w E v 1 op p) : Calls Tryz.prog 25 #[v, .string op, .string p] w fun r w' => r = .returned (.int .i64 1) ∧ Below w.heap.size w w' := by
  rcases hv with ⟨h, _⟩ | ⟨_, B, rfl, hb⟩
  · cases h
  · have g0 := he.off
    have c0 := fun i => cell_of_row w B i _ _ _ hb
    have ha := as_err
    have he1 := err_same
    have d0 : w.cell? ⟨B, 0, none⟩ = some (.string op) := c0 0
    have d1 : w.cell? ⟨B, 1, none⟩ = some (.string p) := c0 1
    have d2 : w.cell? ⟨B, 2, none⟩ = some (errV E 1) := c0 2
    unfold errV at g0 d2
    clear he hb c0
    go_enter Tryz.func25, Tryz.ntmps25
    go_wp2
    go_ret
    exact ⟨rfl, bel _⟩

end
end Go.Proofs.YtmmlefbokplnnaaGreatDoor.Disk

namespace Go.Proofs.YtmmlefbokplnnaaGreatDoor.Disk
open Go.RowKit Go Go.Proofs.YtmmlefbokplnnaaGreatDoor.Base Go.Proofs.YtmmlefbokplnnaaGreatDoor.Map

/-- the error variables are different -/
structure EnvD (w : World) (E : Nat → Addr) : Prop where
  env : Env w E
  blocks : ∀ c, 1 ≤ c → c ≤ 7 → ∃ ca ta, w.heap[(E c).block]? = some (.cells ca ta (0, 0))
  ne : ∀ c d, 1 ≤ c → c ≤ 7 → 1 ≤ d → d ≤ 7 → c ≠ d → E c ≠ E d

section
variable {w w' : World} {E : Nat → Addr}

theorem EnvD.below (h : EnvD w E) (hb : Below w.heap.size w w') : EnvD w' E := by
  refine ⟨h.env.turn (S := fun _ => False) (Turn.of_below hb) (fun _ _ h => h), fun c h1 h2 => ?_, h.ne⟩
  obtain ⟨ca, ta, e⟩ := h.blocks c h1 h2
  exact ⟨ca, ta, (hb.block _ (Array.getElem?_eq_some_iff.1 e).1).trans e⟩

theorem EnvD.turn {S : Nat → Prop} (h : EnvD w E) {b0 : Nat} (ht : Turn S w w') (hS : ∀ k, S k → b0 ≤ k) (h8 : 8 ≤ b0) (hE : ∀ c, 1 ≤ c → c ≤ 7 → (E c).block < b0) : EnvD w' E := by
  refine ⟨h.env.turn ht (fun k hk hh => by have := hS k hh; omega), fun c h1 h2 => ?_, h.ne⟩
  obtain ⟨ca, ta, e⟩ := h.blocks c h1 h2
  exact ⟨ca, ta, (ht.block _ (Array.getElem?_eq_some_iff.1 e).1 (fun hh => by have := hS _ hh; have := hE c h1 h2; omega)).trans e⟩

theorem info_eo2 : (Tryz.prog.info? 201).map (fun i => decide (i.size ≠ 0)) = some true := by kernel_rfl

theorem err_other (h : EnvD w E) (c d : Nat) (h1 : 1 ≤ c) (h2 : c ≤ 7) (h3 : 1 ≤ d) (h4 : d ≤ 7) (hne : c ≠ d) : (binOp .eql 48 (.iface 185 (.pointer (some (E c)))) (.iface 185 (.pointer (some (E d))))).run Tryz.prog w = .ok (.bool false) w := by
  obtain ⟨i, hi, hc⟩ := Option.map_eq_some_iff.1 info_es
  obtain ⟨j, hj, hs⟩ := Option.map_eq_some_iff.1 info_eo2
  obtain ⟨ca, ta, ha⟩ := h.blocks c h1 h2
  obtain ⟨cb, tb, hb⟩ := h.blocks d h3 h4
  exact run_eql_iface_ptr_other w Tryz.underlying48 Tryz.underlying185 hi hc hj (by simpa using hs) (h.ne c d h1 h2 h3 h4 hne) ha hb

set_option maxRecDepth 100000 in
set_option maxHeartbeats 4000000 in
theorem code_any (he : EnvD w E) (v : Value) (c : Nat) (hc : c ≤ 7) (op p : ByteArray) (hv : ErrAt w E v c op p) : Calls Tryz.prog 25 #[v, .string op, .string p] w fun r w' => r = .returned (.int .i64 (c : Int)) ∧ Below w.heap.size w w' := by
  rcases hv with ⟨rfl, rfl⟩ | ⟨hc0, B, rfl, hb⟩
  · clear he
    go_enter Tryz.func25, Tryz.ntmps25
    go_wp2
    go_ret
    exact ⟨rfl, bel _⟩
  · have c0 := fun i => cell_of_row w B i _ _ _ hb
    have ha := as_err
    have he1 := err_same
    have d0 : w.cell? ⟨B, 0, none⟩ = some (.string op) := c0 0
    have d1 : w.cell? ⟨B, 1, none⟩ = some (.string p) := c0 1
    have d2 : w.cell? ⟨B, 2, none⟩ = some (errV E c) := c0 2
    have g1 := he.env.off
    have g2 := he.env.name
    have g3 := he.env.kind
    have g4 := he.env.missing
    have g5 := he.env.exists'
    have g6 := he.env.range
    have g7 := he.env.space
    have hcc : c = 1 ∨ c = 2 ∨ c = 3 ∨ c = 4 ∨ c = 5 ∨ c = 6 ∨ c = 7 := by omega
    clear c0 hb
    unfold errV at g1 g2 g3 g4 g5 g6 g7
    rcases hcc with rfl | rfl | rfl | rfl | rfl | rfl | rfl
    · unfold errV at d2
      clear he
      go_enter Tryz.func25, Tryz.ntmps25
      go_wp2
      go_ret
      exact ⟨rfl, bel _⟩
    · unfold errV at d2
      have o1 := err_other he 2 1 (by decide) (by decide) (by decide) (by decide) (by decide)
      clear he
      go_enter Tryz.func25, Tryz.ntmps25
      go_wp2
      go_ret
      exact ⟨rfl, bel _⟩
    · unfold errV at d2
      have o1 := err_other he 3 1 (by decide) (by decide) (by decide) (by decide) (by decide)
      have o2 := err_other he 3 2 (by decide) (by decide) (by decide) (by decide) (by decide)
      clear he
      go_enter Tryz.func25, Tryz.ntmps25
      go_wp2
      go_ret
      exact ⟨rfl, bel _⟩
    · unfold errV at d2
      have o1 := err_other he 4 1 (by decide) (by decide) (by decide) (by decide) (by decide)
      have o2 := err_other he 4 2 (by decide) (by decide) (by decide) (by decide) (by decide)
      have o3 := err_other he 4 3 (by decide) (by decide) (by decide) (by decide) (by decide)
      clear he
      go_enter Tryz.func25, Tryz.ntmps25
      go_wp2
      go_ret
      exact ⟨rfl, bel _⟩
    · unfold errV at d2
      have o1 := err_other he 5 1 (by decide) (by decide) (by decide) (by decide) (by decide)
      have o2 := err_other he 5 2 (by decide) (by decide) (by decide) (by decide) (by decide)
      have o3 := err_other he 5 3 (by decide) (by decide) (by decide) (by decide) (by decide)
      have o4 := err_other he 5 4 (by decide) (by decide) (by decide) (by decide) (by decide)
      clear he
      go_enter Tryz.func25, Tryz.ntmps25
      go_wp2
      go_ret
      exact ⟨rfl, bel _⟩
    · unfold errV at d2
      have o1 := err_other he 6 1 (by decide) (by decide) (by decide) (by decide) (by decide)
      have o2 := err_other he 6 2 (by decide) (by decide) (by decide) (by decide) (by decide)
      have o3 := err_other he 6 3 (by decide) (by decide) (by decide) (by decide) (by decide)
      have o4 := err_other he 6 4 (by decide) (by decide) (by decide) (by decide) (by decide)
      have o5 := err_other he 6 5 (by decide) (by decide) (by decide) (by decide) (by decide)
      clear he
      go_enter Tryz.func25, Tryz.ntmps25
      go_wp2
      go_ret
      exact ⟨rfl, bel _⟩
    · unfold errV at d2
      have o1 := err_other he 7 1 (by decide) (by decide) (by decide) (by decide) (by decide)
      have o2 := err_other he 7 2 (by decide) (by decide) (by decide) (by decide) (by decide)
      have o3 := err_other he 7 3 (by decide) (by decide) (by decide) (by decide) (by decide)
      have o4 := err_other he 7 4 (by decide) (by decide) (by decide) (by decide) (by decide)
      have o5 := err_other he 7 5 (by decide) (by decide) (by decide) (by decide) (by decide)
      have o6 := err_other he 7 6 (by decide) (by decide) (by decide) (by decide) (by decide)
      clear he
      go_enter Tryz.func25, Tryz.ntmps25
      go_wp2
      go_ret
      exact ⟨rfl, bel _⟩

end
end Go.Proofs.YtmmlefbokplnnaaGreatDoor.Disk

namespace Go.Proofs.YtmmlefbokplnnaaGreatDoor.Disk
open Go.RowKit Go Go.Proofs.YtmmlefbokplnnaaGreatDoor.Base Go.Proofs.YtmmlefbokplnnaaGreatDoor.Map

def hasDir (g : TreeG) (e : ByteArray) : Prop := ∃ x ∈ g.ds, x.name = e
def hasFile (g : TreeG) (e m : ByteArray) (j : Nat) : Prop := ∃ x ∈ g.ds, x.name = e ∧ (m, j) ∈ x.files
structure NamesOk (g : TreeG) : Prop where
  dirs : (g.ds.map (·.name)).Nodup
  files : ∀ x ∈ g.ds, (keys x.files).Nodup

theorem lookDir_iff {g : TreeG} (hn : NamesOk g) {e : ByteArray} {x : DirG} : lookDir g e = some x ↔ x ∈ g.ds ∧ x.name = e := by
  constructor
  · exact lookDir_mem
  · rintro ⟨h1, rfl⟩
    exact lookDir_in hn.dirs h1
theorem lookDir_has {g : TreeG} {e : ByteArray} : (lookDir g e).isSome = true ↔ hasDir g e := by
  constructor
  · intro h
    obtain ⟨x, hx⟩ := Option.isSome_iff_exists.1 h
    obtain ⟨h1, h2⟩ := lookDir_mem hx
    exact ⟨x, h1, h2⟩
  · rintro ⟨x, h1, h2⟩
    unfold lookDir
    rw [List.find?_isSome]
    exact ⟨x, h1, by simp [h2]⟩
theorem lookDir_not {g : TreeG} {e : ByteArray} : lookDir g e = none ↔ ¬ hasDir g e := by
  rw [← lookDir_has]
  cases lookDir g e <;> simp
theorem lookFile_iff {g : TreeG} (hn : NamesOk g) {e m : ByteArray} {j : Nat} : lookFile g e m = some j ↔ hasFile g e m j := by
  unfold lookFile
  constructor
  · intro h
    obtain ⟨x, hx, hm⟩ := Option.bind_eq_some_iff.1 h
    obtain ⟨h1, h2⟩ := lookDir_mem hx
    exact ⟨x, h1, h2, (get_some (hn.files x h1)).1 hm⟩
  · rintro ⟨x, h1, h2, h3⟩
    rw [(lookDir_iff hn).2 ⟨h1, h2⟩]
    exact (get_some (hn.files x h1)).2 h3
theorem fileOf_iff {g : TreeG} (hn : NamesOk g) {p : ByteArray} {j : Nat} : fileOf g p = some j ↔ hasFile g (dirOf p) (baseOf p) j := lookFile_iff hn

theorem TreeAt.ok {w : World} {ptr : Nat → Nat} {g : TreeG} (h : TreeAt w ptr g) : NamesOk g := ⟨h.names.1, h.names.2⟩

theorem mem_put {l : List (ByteArray × Nat)} (hn : (keys l).Nodup) {n m : ByteArray} {i j : Nat} : (m, j) ∈ put l n i ↔ (m = n ∧ j = i) ∨ (m ≠ n ∧ (m, j) ∈ l) := by
  rw [← get_some (put_nodup hn n i), get_put]
  by_cases h : n = m
  · subst h
    simp
    exact ⟨fun h => h.symm, fun h => h.symm⟩
  · rw [if_neg h, get_some hn]
    constructor
    · intro hh; exact .inr ⟨fun e => h e.symm, hh⟩
    · rintro (⟨e, _⟩ | ⟨_, hh⟩)
      · exact absurd e.symm h
      · exact hh
theorem mem_del {l : List (ByteArray × Nat)} {n m : ByteArray} {j : Nat} : (m, j) ∈ del l n ↔ (m, j) ∈ l ∧ m ≠ n := by
  unfold del
  rw [List.mem_filter]
  simp

/-- a directory more -/
theorem add_sem {g : TreeG} (hn : NamesOk g) {a : ByteArray} (ha : ¬ hasDir g a) (fm : Option Nat) (b : Nat) : NamesOk ⟨fm, g.ds ++ [⟨a, b, []⟩]⟩ ∧ (∀ e, hasDir ⟨fm, g.ds ++ [⟨a, b, []⟩]⟩ e ↔ hasDir g e ∨ e = a) ∧ (∀ e m j, hasFile ⟨fm, g.ds ++ [⟨a, b, []⟩]⟩ e m j ↔ hasFile g e m j) := by
  refine ⟨⟨?_, ?_⟩, ?_, ?_⟩
  · simp only [List.map_append, List.map_cons, List.map_nil]
    rw [List.nodup_append]
    refine ⟨hn.dirs, by simp, fun x hx y hy => ?_⟩
    simp at hy
    subst hy
    obtain ⟨z, hz, rfl⟩ := List.mem_map.1 hx
    exact fun e => ha ⟨z, hz, e⟩
  · intro x hx
    rcases List.mem_append.1 hx with hx | hx
    · exact hn.files x hx
    · simp at hx; subst hx; exact List.nodup_nil
  · intro e
    unfold hasDir
    simp only [List.mem_append, List.mem_singleton]
    constructor
    · rintro ⟨x, hx | hx, h⟩
      · exact .inl ⟨x, hx, h⟩
      · subst hx; exact .inr h.symm
    · rintro (⟨x, hx, h⟩ | h)
      · exact ⟨x, .inl hx, h⟩
      · exact ⟨_, .inr rfl, h.symm⟩
  · intro e m j
    unfold hasFile
    simp only [List.mem_append, List.mem_singleton]
    constructor
    · rintro ⟨x, hx | hx, h, h2⟩
      · exact ⟨x, hx, h, h2⟩
      · subst hx; cases h2
    · rintro ⟨x, hx, h⟩
      exact ⟨x, .inl hx, h⟩

theorem set_sem {g : TreeG} (hn : NamesOk g) {d : ByteArray} (hd : hasDir g d) {fs : List (ByteArray × Nat)} (hf : (keys fs).Nodup) :
    NamesOk ⟨g.fm, setFiles g.ds d fs⟩ ∧ (∀ e, hasDir ⟨g.fm, setFiles g.ds d fs⟩ e ↔ hasDir g e) ∧ (∀ e m j, hasFile ⟨g.fm, setFiles g.ds d fs⟩ e m j ↔ (e = d ∧ (m, j) ∈ fs) ∨ (e ≠ d ∧ hasFile g e m j)) := by
  have hnm : (setFiles g.ds d fs).map (·.name) = g.ds.map (·.name) := by
    unfold setFiles
    rw [List.map_map]
    apply List.map_congr_left
    intro y _
    simp only [Function.comp]
    split <;> rfl
  refine ⟨⟨by show ((setFiles g.ds d fs).map _).Nodup; rw [hnm]; exact hn.dirs, ?_⟩, ?_, ?_⟩
  · intro x hx
    obtain ⟨y, hy, rfl⟩ := List.mem_map.1 (show x ∈ setFiles g.ds d fs from hx)
    split
    · exact hf
    · exact hn.files y hy
  · intro e
    have : ∀ ds : List DirG, (∃ x ∈ ds, x.name = e) ↔ e ∈ ds.map (·.name) := fun ds => by simp
    unfold hasDir
    rw [this, this, hnm]
  · intro e m j
    unfold hasFile
    constructor
    · rintro ⟨x, hx, h1, h2⟩
      obtain ⟨y, hy, rfl⟩ := List.mem_map.1 (show x ∈ setFiles g.ds d fs from hx)
      by_cases hyd : y.name = d
      · rw [if_pos hyd] at h1 h2
        exact .inl ⟨by rw [← h1, ← hyd], h2⟩
      · rw [if_neg hyd] at h1 h2
        exact .inr ⟨fun e => hyd (by rw [h1, e]), y, hy, h1, h2⟩
    · rintro (⟨rfl, h⟩ | ⟨hne, y, hy, h1, h2⟩)
      · obtain ⟨x, hx, hxn⟩ := hd
        refine ⟨⟨x.name, x.blk, fs⟩, ?_, hxn, h⟩
        exact List.mem_map.2 ⟨x, hx, by rw [if_pos hxn]⟩
      · refine ⟨y, List.mem_map.2 ⟨y, hy, by rw [if_neg (fun e => hne (by rw [← h1, e]))]⟩, h1, h2⟩

theorem put_sem {g g' : TreeG} (hn : NamesOk g) {d n : ByteArray} {i : Nat} (h : PutTo g g' d n i) :
    NamesOk g' ∧ (∀ e, hasDir g' e ↔ hasDir g e ∨ e = d) ∧ (∀ e m j, hasFile g' e m j ↔ (e = d ∧ m = n ∧ j = i) ∨ (hasFile g e m j ∧ ¬ (e = d ∧ m = n))) := by
  obtain ⟨gm, x, hgm, hx, rfl⟩ := h
  have hm : NamesOk gm ∧ (∀ e, hasDir gm e ↔ hasDir g e ∨ e = d) ∧ (∀ e m j, hasFile gm e m j ↔ hasFile g e m j) := by
    rcases hgm with rfl | ⟨hl, fm, b, rfl⟩
    · refine ⟨hn, fun e => ⟨.inl, ?_⟩, fun _ _ _ => Iff.rfl⟩
      rintro (h | rfl)
      · exact h
      · exact lookDir_has.1 (by rw [hx]; rfl)
    · exact add_sem hn (lookDir_not.1 hl) fm b
  obtain ⟨m1, m2, m3⟩ := hm
  obtain ⟨hxm, hxn⟩ := lookDir_mem hx
  have hxf := m1.files x hxm
  obtain ⟨s1, s2, s3⟩ := set_sem m1 ⟨x, hxm, hxn⟩ (put_nodup hxf n i)
  refine ⟨s1, fun e => (s2 e).trans (m2 e), fun e m j => ?_⟩
  rw [s3, mem_put hxf]
  have hxd : ∀ m j, (m, j) ∈ x.files ↔ hasFile g d m j := fun m j => by
    rw [← m3, ← lookFile_iff m1]
    unfold lookFile
    rw [hx]
    exact (get_some hxf).symm
  constructor
  · rintro (⟨rfl, ⟨h1, h2⟩ | ⟨h1, h2⟩⟩ | ⟨h1, h2⟩)
    · exact .inl ⟨rfl, h1, h2⟩
    · exact .inr ⟨(hxd m j).1 h2, fun hh => h1 hh.2⟩
    · exact .inr ⟨(m3 e m j).1 h2, fun hh => h1 hh.1⟩
  · rintro (⟨rfl, h1, h2⟩ | ⟨h1, h2⟩)
    · exact .inl ⟨rfl, .inl ⟨h1, h2⟩⟩
    · by_cases he : e = d
      · subst he
        exact .inl ⟨rfl, .inr ⟨fun hh => h2 ⟨rfl, hh⟩, (hxd m j).2 h1⟩⟩
      · exact .inr ⟨he, (m3 e m j).2 h1⟩

theorem drop_sem {g g' : TreeG} (hn : NamesOk g) {p : ByteArray} (h : DropTo g g' p) :
    NamesOk g' ∧ (∀ e, hasDir g' e ↔ hasDir g e ∧ e ≠ p) ∧ (∀ e m j, hasFile g' e m j ↔ hasFile g e m j ∧ e ≠ p ∧ ¬ (e = dirOf p ∧ m = baseOf p)) := by
  subst h
  refine ⟨⟨?_, ?_⟩, ?_, ?_⟩
  · show ((dropDs g.ds p).map _).Nodup
    rw [names_dropDs]
    exact hn.dirs.filter _
  · intro x hx
    obtain ⟨y, h1, h2, rfl⟩ := mem_dropDs.1 hx
    split
    · exact del_nodup (hn.files y h1) _
    · exact hn.files y h1
  · intro e
    unfold hasDir
    constructor
    · rintro ⟨x, hx, rfl⟩
      obtain ⟨y, h1, h2, rfl⟩ := mem_dropDs.1 hx
      have e : (if y.name = dirOf p then (⟨y.name, y.blk, del y.files (baseOf p)⟩ : DirG) else y).name = y.name := by split <;> rfl
      rw [e]
      exact ⟨⟨y, h1, rfl⟩, h2⟩
    · rintro ⟨⟨y, h1, rfl⟩, h2⟩
      refine ⟨_, mem_dropDs.2 ⟨y, h1, h2, rfl⟩, ?_⟩
      split <;> rfl
  · intro e m j
    unfold hasFile
    constructor
    · rintro ⟨x, hx, rfl, hm⟩
      obtain ⟨y, h1, h2, rfl⟩ := mem_dropDs.1 hx
      by_cases hd : y.name = dirOf p
      · rw [if_pos hd] at hm ⊢
        obtain ⟨h3, h4⟩ := mem_del.1 hm
        exact ⟨⟨y, h1, rfl, h3⟩, h2, fun hh => h4 hh.2⟩
      · rw [if_neg hd] at hm ⊢
        exact ⟨⟨y, h1, rfl, hm⟩, h2, fun hh => hd hh.1⟩
    · rintro ⟨⟨y, h1, rfl, hm⟩, h2, h3⟩
      refine ⟨_, mem_dropDs.2 ⟨y, h1, h2, rfl⟩, ?_, ?_⟩
      · split <;> rfl
      · by_cases hd : y.name = dirOf p
        · rw [if_pos hd]
          exact mem_del.2 ⟨hm, fun e => h3 ⟨hd, e⟩⟩
        · rw [if_neg hd]; exact hm

theorem moveD_sem {g g' : TreeG} (hn : NamesOk g) {a b : ByteArray} {x : DirG} (hx : lookDir g a = some x) (hb : ¬ hasDir g b) (h : DropTo ⟨g.fm, g.ds ++ [⟨b, x.blk, x.files⟩]⟩ g' a) :
    NamesOk g' ∧ (∀ e, hasDir g' e ↔ (hasDir g e ∧ e ≠ a) ∨ e = b) ∧
      (∀ e m j, hasFile g' e m j ↔ (hasFile g e m j ∧ e ≠ a ∧ ¬ (e = dirOf a ∧ m = baseOf a)) ∨ (e = b ∧ hasFile g a m j ∧ ¬ (e = dirOf a ∧ m = baseOf a))) := by
  obtain ⟨hxm, hxn⟩ := lookDir_mem hx
  have hab : b ≠ a := fun e => hb ⟨x, hxm, by rw [hxn, e]⟩
  have hn2 : NamesOk ⟨g.fm, g.ds ++ [⟨b, x.blk, x.files⟩]⟩ := by
    refine ⟨?_, ?_⟩
    · simp only [List.map_append, List.map_cons, List.map_nil]
      rw [List.nodup_append]
      refine ⟨hn.dirs, by simp, fun x hx y hy => ?_⟩
      simp at hy
      subst hy
      obtain ⟨z, hz, rfl⟩ := List.mem_map.1 hx
      exact fun e => hb ⟨z, hz, e⟩
    · intro y hy
      rcases List.mem_append.1 hy with hy | hy
      · exact hn.files y hy
      · simp at hy; subst hy; exact hn.files x hxm
  obtain ⟨s1, s2, s3⟩ := drop_sem hn2 h
  have d2 : ∀ e, hasDir ⟨g.fm, g.ds ++ [⟨b, x.blk, x.files⟩]⟩ e ↔ hasDir g e ∨ e = b := fun e => by
    unfold hasDir
    simp only [List.mem_append, List.mem_singleton]
    constructor
    · rintro ⟨y, hy | hy, h⟩
      · exact .inl ⟨y, hy, h⟩
      · subst hy; exact .inr h.symm
    · rintro (⟨y, hy, h⟩ | h)
      · exact ⟨y, .inl hy, h⟩
      · exact ⟨_, .inr rfl, h.symm⟩
  have hxf : ∀ m j, (m, j) ∈ x.files ↔ hasFile g a m j := fun m j => by
    rw [← lookFile_iff hn]
    unfold lookFile
    rw [hx]
    exact (get_some (hn.files x hxm)).symm
  have f2 : ∀ e m j, hasFile ⟨g.fm, g.ds ++ [⟨b, x.blk, x.files⟩]⟩ e m j ↔ hasFile g e m j ∨ (e = b ∧ hasFile g a m j) := fun e m j => by
    rw [← hxf]
    unfold hasFile
    simp only [List.mem_append, List.mem_singleton]
    constructor
    · rintro ⟨y, hy | hy, h, h2⟩
      · exact .inl ⟨y, hy, h, h2⟩
      · subst hy; exact .inr ⟨h.symm, h2⟩
    · rintro (⟨y, hy, h⟩ | ⟨h, h2⟩)
      · exact ⟨y, .inl hy, h⟩
      · exact ⟨_, .inr rfl, h.symm, h2⟩
  refine ⟨s1, fun e => ?_, fun e m j => ?_⟩
  · rw [s2, d2]
    constructor
    · rintro ⟨h | h, h2⟩
      · exact .inl ⟨h, h2⟩
      · exact .inr h
    · rintro (⟨h, h2⟩ | h)
      · exact ⟨.inl h, h2⟩
      · exact ⟨.inr h, by rw [h]; exact hab⟩
  · rw [s3, f2]
    constructor
    · rintro ⟨h | ⟨h, h0⟩, h2, h3⟩
      · exact .inl ⟨h, h2, h3⟩
      · exact .inr ⟨h, h0, h3⟩
    · rintro (⟨h, h2, h3⟩ | ⟨h, h0, h3⟩)
      · exact ⟨.inl h, h2, h3⟩
      · exact ⟨.inr ⟨h, h0⟩, by rw [h]; exact hab, h3⟩

end Go.Proofs.YtmmlefbokplnnaaGreatDoor.Disk

namespace Go.Proofs.YtmmlefbokplnnaaGreatDoor.Disk
open Go.RowKit Go Go.Proofs.YtmmlefbokplnnaaGreatDoor.Base Go.Proofs.YtmmlefbokplnnaaGreatDoor.Map

set_option maxRecDepth 100000 in
set_option maxHeartbeats 4000000 in
theorem refIsName (s : ByteArray) (hs : s.size < 4611686018427387904) (w : World) : Calls Tryz.prog 59 #[.string s] w fun r w' => r = .returned (.bool (isName s)) ∧ w = w' := by
  obtain ⟨R, hR⟩ : ∃ R, (nums s).all okByte = R := ⟨_, rfl⟩
  have e : isName s = (decide (1 ≤ s.size ∧ s.size ≤ 32) && R) := by unfold isName; rw [hR]
  rw [e]
  have HR := Lib.hid hR
  clear e hR
  go_enter Tryz.func59, Tryz.ntmps59
  go_wp2_with fail
  go_loopg [3] s.size (fun r i wr => ∃ (j : Nat), Hid (j + r = s.size) ∧ j ≤ s.size ∧ i = .int .i64 (j : Int) ∧ Hid (∀ q, q < j → okByte (at8 s q) = true) ∧ wr = w)
  case atStart => exact ⟨0, Nat.zero_add _, Nat.zero_le _, rfl, fun q hq => absurd hq (Nat.not_lt_zero _), rfl⟩
  case round =>
    obtain ⟨j, hE, hj, rfl, HA, rfl⟩ := hrel
    by_cases hlt : j < s.size
    · have hl := at8_lt s j
      cases hok : okByte (at8 s j)
      · have hf : R = false := by
          rw [← HR.out, List.all_eq_false]
          exact ⟨at8 s j, by unfold at8; rw [List.getD, nums_at s j hlt]; exact List.mem_of_getElem? (nums_at s j hlt), by simp [hok]⟩
        subst hf
        by_cases h1 : (97 : Int) ≤ (at8 s j : Int) <;> by_cases h2 : ((at8 s j : Nat) : Int) ≤ 122 <;> by_cases h3 : (48 : Int) ≤ (at8 s j : Int) <;> by_cases h4 : ((at8 s j : Nat) : Int) ≤ 57 <;> by_cases h5 : ((at8 s j : Nat) : Int) = 46 <;> by_cases h6 : ((at8 s j : Nat) : Int) = 45
        all_goals first
          | (exfalso; unfold okByte at hok; simp at hok; omega)
          | ((first | have b5 : (((at8 s j : Nat) : Int) != 46) = true := by simp [h5] | have b5 : (((at8 s j : Nat) : Int) != 46) = false := by simp [h5])
             (first | have b6 : (((at8 s j : Nat) : Int) != 45) = true := by simp [h6] | have b6 : (((at8 s j : Nat) : Int) != 45) = false := by simp [h6])
             rw [at8_eq s j hlt] at h1 h2 h3 h4 h5 h6 b5 b6
             clear hok hl
             go_wp2
             go_ret
             exact ⟨ret_bool (by simp), rfl⟩)
      · have HO := Lib.hid hok
        by_cases h1 : (97 : Int) ≤ (at8 s j : Int) <;> by_cases h2 : ((at8 s j : Nat) : Int) ≤ 122 <;> by_cases h3 : (48 : Int) ≤ (at8 s j : Int) <;> by_cases h4 : ((at8 s j : Nat) : Int) ≤ 57 <;> by_cases h5 : ((at8 s j : Nat) : Int) = 46 <;> by_cases h6 : ((at8 s j : Nat) : Int) = 45
        all_goals first
          | (exfalso; unfold okByte at hok; simp at hok; omega)
          | ((first | have b5 : (((at8 s j : Nat) : Int) != 46) = true := by simp [h5] | have b5 : (((at8 s j : Nat) : Int) != 46) = false := by simp [h5])
             (first | have b6 : (((at8 s j : Nat) : Int) != 45) = true := by simp [h6] | have b6 : (((at8 s j : Nat) : Int) != 45) = false := by simp [h6])
             rw [at8_eq s j hlt] at h1 h2 h3 h4 h5 h6 b5 b6
             clear hok hl
             go_wp2
             go_roundg (s.size - (j + 1))
             case measure => have := hE.out; omega
             case rel =>
               refine ⟨j + 1, by show _ = _; omega, by omega, by go_num, ?_, rfl⟩
               intro q hq
               by_cases hqj : q = j
               · subst hqj; exact HO.out
               · exact HA.out q (by omega))
    · obtain rfl : j = s.size := by omega
      have ht : R = true := by
        rw [← HR.out, List.all_eq_true]
        intro x hx
        obtain ⟨q, hq⟩ := List.getElem?_of_mem hx
        have hql : q < s.size := by
          rcases Nat.lt_or_ge q s.size with h | h
          · exact h
          · rw [List.getElem?_eq_none (by rw [nums_length]; exact h)] at hq; cases hq
        have := HA.out q hql
        unfold at8 at this
        rw [List.getD, hq] at this
        exact this
      subst ht
      clear hlt hE
      by_cases k1 : (1 : Int) ≤ (s.size : Int) <;> by_cases k2 : (s.size : Int) ≤ 32
      all_goals
        go_wp2
        go_ret
        refine ⟨ret_bool ?_, rfl⟩
        rw [Bool.eq_iff_iff]
        simp
        try omega

def slI (s : ByteArray) : Int := if sl s < s.size then (sl s : Int) else -1

set_option maxRecDepth 100000 in
set_option maxHeartbeats 4000000 in
theorem refSlash (s : ByteArray) (hs : s.size < 4611686018427387904) (w : World) : Calls Tryz.prog 61 #[.string s] w fun r w' => r = .returned (.int .i64 (slI s)) ∧ w = w' := by
  obtain ⟨R, hR⟩ : ∃ R, slI s = R := ⟨_, rfl⟩
  rw [hR]
  have HR := Lib.hid hR
  clear hR
  go_enter Tryz.func61, Tryz.ntmps61
  go_wp2_with fail
  go_loopg [3] s.size (fun r i wr => ∃ (j : Nat), Hid (j + r = s.size) ∧ j ≤ s.size ∧ i = .int .i64 (j : Int) ∧ Hid (j ≤ sl s) ∧ wr = w)
  case atStart => exact ⟨0, Nat.zero_add _, Nat.zero_le _, rfl, Nat.zero_le _, rfl⟩
  case round =>
    obtain ⟨j, hE, hj, rfl, HA, rfl⟩ := hrel
    by_cases hlt : j < s.size
    · have hl := at8_lt s j
      by_cases h1 : ((at8 s j : Nat) : Int) = 47
      · have hsl : sl s = j := by
          rcases Nat.lt_or_ge j (sl s) with h | h
          · exact absurd (by omega) (sl_before s j h)
          · have := HA.out; omega
        have hRj : R = (j : Int) := by rw [← HR.out]; unfold slI; rw [hsl, if_pos hlt]
        subst hRj
        have b1 : (((at8 s j : Nat) : Int) == 47) = true := by simp [h1]
        rw [at8_eq s j hlt] at h1 b1
        clear hl hsl
        go_wp2
        go_ret
        exact ⟨rfl, rfl⟩
      · have hn : j < sl s := by
          have := HA.out
          rcases Nat.lt_or_ge j (sl s) with h | h
          · exact h
          · exfalso
            have e : sl s = j := by omega
            have := sl_at s (by omega)
            rw [e] at this
            exact h1 (by omega)
        have HN := Lib.hid hn
        have b1 : (((at8 s j : Nat) : Int) == 47) = false := by simp [h1]
        rw [at8_eq s j hlt] at h1 b1
        clear hl hn
        go_wp2
        go_roundg (s.size - (j + 1))
        case measure => have := hE.out; omega
        case rel => exact ⟨j + 1, by show _ = _; omega, by omega, by go_num, HN.out, rfl⟩
    · obtain rfl : j = s.size := by omega
      have hRj : R = -1 := by rw [← HR.out]; unfold slI; rw [if_neg (by have := HA.out; omega)]
      subst hRj
      clear hlt hE
      go_wp2
      go_ret
      exact ⟨rfl, rfl⟩

set_option maxRecDepth 100000 in
set_option maxHeartbeats 4000000 in
theorem refIsPath (s : ByteArray) (hs : s.size < 4611686018427387904) (w : World) : Calls Tryz.prog 70 #[.string s] w fun r w' => r = .returned (.bool (isPath s)) ∧ w = w' := by
  have h1 := refSlash s hs
  have h2 := fun W => refIsName s hs W
  have hl := sl_le s
  by_cases hk : sl s < s.size
  · have e1 : slI s = (sl s : Int) := by unfold slI; rw [if_pos hk]
    have e2 : isPath s = (isName (s.extract 0 (sl s)) && isName (s.extract (sl s + 1) s.size)) := by unfold isPath; rw [if_pos hk]
    rw [e2]
    rw [e1] at h1
    have h3 := fun W => refIsName (s.extract 0 (sl s)) (by rw [ByteArray.size_extract]; omega) W
    have h4 := fun W => refIsName (s.extract (sl s + 1) s.size) (by rw [ByteArray.size_extract]; omega) W
    obtain ⟨k, hkk⟩ : ∃ k, sl s = k := ⟨_, rfl⟩
    rw [hkk] at h1 h3 h4 hk hl ⊢
    clear hkk e1 e2 h2
    go_enter Tryz.func70, Tryz.ntmps70
    go_wp2_with (first
      | (go_at_call 61; refine (h1 _).mono ?_; rintro r w2 ⟨rfl, rfl⟩)
      | (go_at_call 59; ((with_reducible refine (h3 _).mono ?_); rintro r w2 ⟨rfl, rfl⟩))
      | (go_at_call 59; ((with_reducible refine (h4 _).mono ?_); rintro r w2 ⟨rfl, rfl⟩)))
    all_goals
      go_ret
      first
        | (exfalso; omega)
        | exact ⟨ret_bool (by simp_all), rfl⟩
  · have e1 : slI s = -1 := by unfold slI; rw [if_neg hk]
    have e2 : isPath s = isName s := by unfold isPath; rw [if_neg hk]
    rw [e2]
    rw [e1] at h1
    clear hk hl
    go_enter Tryz.func70, Tryz.ntmps70
    go_wp2_with (first
      | (go_at_call 61; refine (h1 _).mono ?_; rintro r w2 ⟨rfl, rfl⟩)
      | (go_at_call 59; refine (h2 _).mono ?_; rintro r w2 ⟨rfl, rfl⟩))
    go_ret
    exact ⟨rfl, rfl⟩

end Go.Proofs.YtmmlefbokplnnaaGreatDoor.Disk
