/-
  The law BitsNone: its walk. Own text.
-/
import Derived.Test.YtmenhgdedllioaaBytes
import Derived.Test.YtmenhgdedllioaaFields
namespace Go.Proofs.Ytmenhgdedllioaa.Bits
open Go.RowKit Go

theorem none_walk (ao : Option Addr) (len cap : Nat) (V N : Nat → Int) (w : World) (hl : len ≤ 140737488351232) (hF : FieldsAt w ao len V N) :
    Calls Try.prog 7 #[.slice ao len cap] w fun e w' => e = .returned (.bool true) ∧ Below w.heap.size w w' := by
  go_enter Try.func7, Try.ntmps7
  go_wp2_with fail
  go_loopg [11] len (fun r i wr => ∃ k : Nat, Hid (k + r = len) ∧ k ≤ len ∧ i = .int .i64 (k : Int) ∧ Below w.heap.size w wr)
  case atStart => exact ⟨0, Nat.zero_add _, Nat.zero_le _, rfl, Below.refl _ _⟩
  case round =>
    obtain ⟨k, hE, hk, rfl, hB⟩ := hrel
    have hsz := hB.size
    by_cases hlt : k < len
    · obtain ⟨b, off, rfl, hb, q0, q1, _, _⟩ := hF k hlt
      have g0 := (hB.cell (p := ⟨b, off + k * 2, none⟩) hb).trans q0
      have g1 := (hB.cell (p := ⟨b, off + k * 2 + 1, none⟩) hb).trans q1
      obtain ⟨v, hv⟩ : ∃ v, v = V k := ⟨_, rfl⟩
      obtain ⟨n, hn⟩ : ∃ n, n = N k := ⟨_, rfl⟩
      rw [← hv] at g0
      rw [← hn] at g1
      clear hF q0 q1 hv hn
      go_wp2_with (first | (go_at_call 8; refine (put_nil _ _ _).mono ?_; rintro e w' ⟨rfl, rfl⟩) | (go_at_call 16; refine (take_nil _ _).mono ?_; rintro e w' ⟨rfl, rfl⟩))
      go_roundg (len - (k + 1))
      case measure => have := hE.out; omega
      case rel => exact ⟨k + 1, by show _ = _; omega, by omega, by go_num, hB.alloc hsz _⟩
    · clear hF
      go_wp2_with (first | (go_at_call 13; refine (wakes_any _).mono ?_; rintro e w' ⟨rfl, hb1⟩) | (go_at_call 10; refine (len_nil _).mono ?_; rintro e w' ⟨rfl, rfl⟩) | (go_at_call 11; refine (bytes_nil _).mono ?_; rintro e w' ⟨rfl, rfl⟩) | (go_at_call 19; refine (left_nil _).mono ?_; rintro e w' ⟨rfl, rfl⟩))
      go_ret
      exact ⟨rfl, hB.trans (hb1.mono hsz)⟩
end Go.Proofs.Ytmenhgdedllioaa.Bits
