/-
  A nil disk: the calls that the laws make; an error's number. Own text.
-/
import Derived.Test.YtbgogipdldegdaaGreatDoorDNil
import Derived.LaidEql
namespace Go.Proofs.YtbgogipdldegdaaGreatDoor.Disk
open Go.RowKit Go Go.Proofs.YtbgogipdldegdaaGreatDoor.Base Go.Proofs.YtbgogipdldegdaaGreatDoor.Map

section
variable {w : World} {E : Nat → Addr}

theorem Mkdir_nil (he : Env w E) (p : ByteArray) : Calls Tryz.prog 26 #[.pointer none, .string p] w fun r w' => ∃ v, r = .returned v ∧ ErrAt w' E v 1 ⟨#[109, 107, 100, 105, 114]⟩ p ∧ Below w.heap.size w w' := by
  have h1 := mkdir_nil he p
  have h2 := fun W => refused_err ⟨#[109, 107, 100, 105, 114]⟩ p E 1 W
  have H1 := Lib.hid h1
  have H2 := Lib.hid h2
  clear he h1 h2
  go_enter Tryz.func26, Tryz.ntmps26
  go_wp2_with (first
    | (go_at_call 68; ((with_reducible refine H1.out.mono ?_); rintro r w2 ⟨rfl, hb2⟩))
    | (go_at_call 55; ((with_reducible refine (H2.out _).mono ?_); rintro r w3 ⟨v, rfl, hv, hb⟩)))
  go_ret
  exact ⟨_, rfl, hv, hb2.trans (hb.mono hb2.size)⟩

theorem Create_nil (he : Env w E) (p : ByteArray) : Calls Tryz.prog 20 #[.pointer none, .string p] w fun r w' => ∃ v, r = .returned v ∧ ErrAt w' E v 1 ⟨#[99, 114, 101, 97, 116, 101]⟩ p ∧ Below w.heap.size w w' := by
  have h1 := create_nil he p
  have h2 := fun W => refused_err ⟨#[99, 114, 101, 97, 116, 101]⟩ p E 1 W
  have H1 := Lib.hid h1
  have H2 := Lib.hid h2
  clear he h1 h2
  go_enter Tryz.func20, Tryz.ntmps20
  go_wp2_with (first
    | (go_at_call 63; ((with_reducible refine H1.out.mono ?_); rintro r w2 ⟨rfl, hb2⟩))
    | (go_at_call 55; ((with_reducible refine (H2.out _).mono ?_); rintro r w3 ⟨v, rfl, hv, hb⟩)))
  go_ret
  exact ⟨_, rfl, hv, hb2.trans (hb.mono hb2.size)⟩

theorem Cut_nil (he : Env w E) (p : ByteArray) (n : Int) : Calls Tryz.prog 31 #[.pointer none, .string p, .int .i64 n] w fun r w' => ∃ v, r = .returned v ∧ ErrAt w' E v 1 ⟨#[99, 117, 116]⟩ p ∧ Below w.heap.size w w' := by
  have h1 := shorten_nil he p n
  have h2 := fun W => refused_err ⟨#[99, 117, 116]⟩ p E 1 W
  have H1 := Lib.hid h1
  have H2 := Lib.hid h2
  clear he h1 h2
  go_enter Tryz.func31, Tryz.ntmps31
  go_wp2_with (first
    | (go_at_call 74; ((with_reducible refine H1.out.mono ?_); rintro r w2 ⟨rfl, hb2⟩))
    | (go_at_call 55; ((with_reducible refine (H2.out _).mono ?_); rintro r w3 ⟨v, rfl, hv, hb⟩)))
  go_ret
  exact ⟨_, rfl, hv, hb2.trans (hb.mono hb2.size)⟩

theorem Sync_nil (he : Env w E) (p : ByteArray) : Calls Tryz.prog 23 #[.pointer none, .string p] w fun r w' => ∃ v, r = .returned v ∧ ErrAt w' E v 1 ⟨#[115, 121, 110, 99]⟩ p ∧ Below w.heap.size w w' := by
  have h1 := sync_nil he p
  have h2 := fun W => refused_err ⟨#[115, 121, 110, 99]⟩ p E 1 W
  have H1 := Lib.hid h1
  have H2 := Lib.hid h2
  clear he h1 h2
  go_enter Tryz.func23, Tryz.ntmps23
  go_wp2_with (first
    | (go_at_call 66; ((with_reducible refine H1.out.mono ?_); rintro r w2 ⟨rfl, hb2⟩))
    | (go_at_call 55; ((with_reducible refine (H2.out _).mono ?_); rintro r w3 ⟨v, rfl, hv, hb⟩)))
  go_ret
  exact ⟨_, rfl, hv, hb2.trans (hb.mono hb2.size)⟩

theorem SyncNames_nil (he : Env w E)  : Calls Tryz.prog 21 #[.pointer none] w fun r w' => ∃ v, r = .returned v ∧ ErrAt w' E v 1 ⟨#[110, 97, 109, 101, 115]⟩ ⟨#[]⟩ ∧ Below w.heap.size w w' := by
  have h1 := syncNames_nil he 
  have h2 := fun W => refused_err ⟨#[110, 97, 109, 101, 115]⟩ ⟨#[]⟩ E 1 W
  have H1 := Lib.hid h1
  have H2 := Lib.hid h2
  clear he h1 h2
  go_enter Tryz.func21, Tryz.ntmps21
  go_wp2_with (first
    | (go_at_call 64; ((with_reducible refine H1.out.mono ?_); rintro r w2 ⟨rfl, hb2⟩))
    | (go_at_call 55; ((with_reducible refine (H2.out _).mono ?_); rintro r w3 ⟨v, rfl, hv, hb⟩)))
  go_ret
  exact ⟨_, rfl, hv, hb2.trans (hb.mono hb2.size)⟩

theorem Rename_nil (he : Env w E) (p : ByteArray) (q : ByteArray) : Calls Tryz.prog 35 #[.pointer none, .string p, .string q] w fun r w' => ∃ v, r = .returned v ∧ ErrAt w' E v 1 ⟨#[114, 101, 110, 97, 109, 101]⟩ p ∧ Below w.heap.size w w' := by
  have h1 := rename_nil he p q
  have h2 := fun W => refused_err ⟨#[114, 101, 110, 97, 109, 101]⟩ p E 1 W
  have H1 := Lib.hid h1
  have H2 := Lib.hid h2
  clear he h1 h2
  go_enter Tryz.func35, Tryz.ntmps35
  go_wp2_with (first
    | (go_at_call 75; ((with_reducible refine H1.out.mono ?_); rintro r w2 ⟨rfl, hb2⟩))
    | (go_at_call 55; ((with_reducible refine (H2.out _).mono ?_); rintro r w3 ⟨v, rfl, hv, hb⟩)))
  go_ret
  exact ⟨_, rfl, hv, hb2.trans (hb.mono hb2.size)⟩

theorem Remove_nil (he : Env w E) (p : ByteArray) : Calls Tryz.prog 37 #[.pointer none, .string p] w fun r w' => ∃ v, r = .returned v ∧ ErrAt w' E v 1 ⟨#[114, 101, 109, 111, 118, 101]⟩ p ∧ Below w.heap.size w w' := by
  have h1 := remove_nil he p
  have h2 := fun W => refused_err ⟨#[114, 101, 109, 111, 118, 101]⟩ p E 1 W
  have H1 := Lib.hid h1
  have H2 := Lib.hid h2
  clear he h1 h2
  go_enter Tryz.func37, Tryz.ntmps37
  go_wp2_with (first
    | (go_at_call 76; ((with_reducible refine H1.out.mono ?_); rintro r w2 ⟨rfl, hb2⟩))
    | (go_at_call 55; ((with_reducible refine (H2.out _).mono ?_); rintro r w3 ⟨v, rfl, hv, hb⟩)))
  go_ret
  exact ⟨_, rfl, hv, hb2.trans (hb.mono hb2.size)⟩

theorem Flip_nil (he : Env w E) (p : ByteArray) (n : Int) (m : Int) : Calls Tryz.prog 79 #[.pointer none, .string p, .int .i64 n, .int .u8 m] w fun r w' => ∃ v, r = .returned v ∧ ErrAt w' E v 1 ⟨#[102, 108, 105, 112]⟩ p ∧ Below w.heap.size w w' := by
  have h1 := flip_nil he p n m
  have h2 := fun W => refused_err ⟨#[102, 108, 105, 112]⟩ p E 1 W
  have H1 := Lib.hid h1
  have H2 := Lib.hid h2
  clear he h1 h2
  go_enter Tryz.func79, Tryz.ntmps79
  go_wp2_with (first
    | (go_at_call 107; ((with_reducible refine H1.out.mono ?_); rintro r w2 ⟨rfl, hb2⟩))
    | (go_at_call 55; ((with_reducible refine (H2.out _).mono ?_); rintro r w3 ⟨v, rfl, hv, hb⟩)))
  go_ret
  exact ⟨_, rfl, hv, hb2.trans (hb.mono hb2.size)⟩

theorem Append_nil (he : Env w E) (p : ByteArray) (ao : Option Addr) (n cap : Nat) : Calls Tryz.prog 22 #[.pointer none, .string p, .slice ao n cap] w fun r w' => ∃ v, r = .returned v ∧ ErrAt w' E v 1 ⟨#[97, 112, 112, 101, 110, 100]⟩ p ∧ Below w.heap.size w w' := by
  have h1 := extend_nil he p ao n cap
  have h2 := fun W => refused_err ⟨#[97, 112, 112, 101, 110, 100]⟩ p E 1 W
  have H1 := Lib.hid h1
  have H2 := Lib.hid h2
  clear he h1 h2
  go_enter Tryz.func22, Tryz.ntmps22
  go_wp2_with (first
    | (go_at_call 65; ((with_reducible refine H1.out.mono ?_); rintro r w2 ⟨rfl, hb2⟩))
    | (go_at_call 55; ((with_reducible refine (H2.out _).mono ?_); rintro r w3 ⟨v, rfl, hv, hb⟩)))
  go_ret
  exact ⟨_, rfl, hv, hb2.trans (hb.mono hb2.size)⟩

theorem Read_nil (he : Env w E) (p : ByteArray) (n : Int) (m : Int) : Calls Tryz.prog 39 #[.pointer none, .string p, .int .i64 n, .int .i64 m] w fun r w' => ∃ v, r = .returned (.tuple #[.string ⟨#[]⟩, v]) ∧ ErrAt w' E v 1 ⟨#[114, 101, 97, 100]⟩ p ∧ Below w.heap.size w w' := by
  have h1 := open_nil he p
  have h2 := fun W => refused_err ⟨#[114, 101, 97, 100]⟩ p E 1 W
  have H1 := Lib.hid h1
  have H2 := Lib.hid h2
  unfold errV at H1 H2
  clear he h1 h2
  go_enter Tryz.func39, Tryz.ntmps39
  go_wp2_with (first
    | (go_at_call 67; ((with_reducible refine H1.out.mono ?_); rintro r w2 ⟨rfl, hb2⟩))
    | (go_at_call 55; ((with_reducible refine (H2.out _).mono ?_); rintro r w3 ⟨v, rfl, hv, hb⟩)))
  go_ret2
  exact ⟨_, rfl, hv, hb2.trans (hb.mono hb2.size)⟩

theorem All_nil (he : Env w E) (p : ByteArray) : Calls Tryz.prog 24 #[.pointer none, .string p] w fun r w' => ∃ v, r = .returned (.tuple #[.string ⟨#[]⟩, v]) ∧ ErrAt w' E v 1 ⟨#[114, 101, 97, 100]⟩ p ∧ Below w.heap.size w w' := by
  have h1 := open_nil he p
  have h2 := fun W => refused_err ⟨#[114, 101, 97, 100]⟩ p E 1 W
  have H1 := Lib.hid h1
  have H2 := Lib.hid h2
  unfold errV at H1 H2
  clear he h1 h2
  go_enter Tryz.func24, Tryz.ntmps24
  go_wp2_with (first
    | (go_at_call 67; ((with_reducible refine H1.out.mono ?_); rintro r w2 ⟨rfl, hb2⟩))
    | (go_at_call 55; ((with_reducible refine (H2.out _).mono ?_); rintro r w3 ⟨v, rfl, hv, hb⟩)))
  go_ret2
  exact ⟨_, rfl, hv, hb2.trans (hb.mono hb2.size)⟩

theorem List_nil (he : Env w E) (p : ByteArray) : Calls Tryz.prog 17 #[.pointer none, .string p] w fun r w' => ∃ v, r = .returned (.tuple #[.slice none 0 0, v]) ∧ ErrAt w' E v 1 ⟨#[108, 105, 115, 116]⟩ p ∧ Below w.heap.size w w' := by
  have g0 := he.off
  have ho := off_nil
  have h2 := fun W => refused_err ⟨#[108, 105, 115, 116]⟩ p E 1 W
  have H2 := Lib.hid h2
  unfold errV at g0 H2
  clear he h2
  go_enter Tryz.func17, Tryz.ntmps17
  go_wp2_with (first
    | (go_at_call 16; refine (ho _).mono ?_; rintro r w2 ⟨rfl, rfl⟩)
    | (go_at_call 55; ((with_reducible refine (H2.out _).mono ?_); rintro r w3 ⟨v, rfl, hv, hb⟩)))
  go_ret2
  exact ⟨_, rfl, hv, hb⟩

theorem as_err (W : World) (v : Value) : (Instr.typeAssert (.iface 111 v) 48 111 true).run Tryz.prog W = .ok (.tuple #[v, .bool true]) W := by kernel_rfl

theorem info_es : (Tryz.prog.info? 185).map (·.comparable) = some true := by kernel_rfl
theorem info_eo : (Tryz.prog.info? 201).isSome = true := by kernel_rfl
theorem err_same (W : World) (a : Addr) : (binOp .eql 48 (.iface 185 (.pointer (some a))) (.iface 185 (.pointer (some a)))).run Tryz.prog W = .ok (.bool true) W := by
  obtain ⟨i, hi, hc⟩ := Option.map_eq_some_iff.1 info_es
  obtain ⟨j, hj⟩ := Option.isSome_iff_exists.1 info_eo
  exact run_eql_iface_ptr_same W a Tryz.underlying48 Tryz.underlying185 hi hc hj

set_option maxRecDepth 100000 in
set_option maxHeartbeats 2000000 in
theorem code_off (he : Env w E) (v : Value) (op p : ByteArray) (hv : ErrAt w E v 1 op p) : Calls Tryz.prog 25 #[v, .string op, .string p] w fun r w' => r = .returned (.int .i64 1) ∧ Below w.heap.size w w' := by
  rcases hv with ⟨h, _⟩ | ⟨_, B, rfl, hb⟩
  · cases h
  · have g0 := he.off
    have c0 := fun i => cell_of_row w B i _ _ _ hb
    have ha := as_err
    have he1 := err_same
    have d0 : w.cell? ⟨B, 0, none⟩ = some (.string op) := c0 0
    have d1 : w.cell? ⟨B, 1, none⟩ = some (.string p) := c0 1
    have d2 : w.cell? ⟨B, 2, none⟩ = some (errV E 1) := c0 2
    unfold errV at g0 d2
    clear he hb c0
    go_enter Tryz.func25, Tryz.ntmps25
    go_wp2
    go_ret
    exact ⟨rfl, bel _⟩

end
end Go.Proofs.YtbgogipdldegdaaGreatDoor.Disk
