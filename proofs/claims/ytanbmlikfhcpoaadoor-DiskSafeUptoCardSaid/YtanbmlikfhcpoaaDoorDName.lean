/-
  Names and paths: contracts of the program's own functions. Own text.
-/
import Derived.Test.YtanbmlikfhcpoaaDoorDModel
import Derived.Shelf.Strings.Cut
import Derived.Shelf.Lay
import Derived.Ground.NamesProg
namespace Go.Proofs
open Go.Shelf
shelf_lay Lays.n145 Nm 145 at Tryd as Tryd.cut145
end Go.Proofs
namespace Go.Proofs.YtanbmlikfhcpoaaDoor.Disk
open Go.RowKit Go Go.Proofs.YtanbmlikfhcpoaaDoor.Base Go.Shelf

theorem ret_bool {a b : Bool} (h : a = b) : Ending.returned (.bool a) = .returned (.bool b) := by rw [h]

theorem nameByte_any (b : Nat) (hb : b < 256) (w : World) : Calls Tryd.prog 48 #[.int .u8 (b : Int)] w fun e w' => e = .returned (.bool (okByte b)) ∧ w = w' := by
  by_cases h1 : (97 : Int) ≤ b <;> by_cases h2 : (b : Int) ≤ 122 <;> by_cases h3 : (48 : Int) ≤ b <;> by_cases h4 : (b : Int) ≤ 57 <;> by_cases h5 : (b : Int) = 46 <;> by_cases h6 : (b : Int) = 45
  all_goals first
    | (exfalso; omega)
    | (go_enter Tryd.func48, Tryd.ntmps48
       go_wp2
       go_ret
       refine ⟨ret_bool ?_, rfl⟩
       rw [Bool.eq_iff_iff]
       unfold okByte
       simp
       try omega)

theorem isName_any (s : ByteArray) (hs : s.size < 4611686018427387904) (w : World) : Calls Tryd.prog 30 #[.string s] w fun e w' => e = .returned (.bool (isName s)) ∧ w = w' := by
  by_cases h1 : s.size < 1
  · have e : isName s = false := by unfold isName; simp; omega
    rw [e]
    have h1i : (s.size : Int) < 1 := by omega
    go_enter Tryd.func30, Tryd.ntmps30
    go_wp2
    go_ret
    exact ⟨rfl, rfl⟩
  by_cases h2 : 32 < s.size
  · have e : isName s = false := by unfold isName; simp; omega
    rw [e]
    have h1i : ¬ (s.size : Int) < 1 := by omega
    have h2i : (32 : Int) < (s.size : Int) := by omega
    go_enter Tryd.func30, Tryd.ntmps30
    go_wp2
    go_ret
    exact ⟨rfl, rfl⟩
  have h1i : ¬ (s.size : Int) < 1 := by omega
  have h2i : ¬ (32 : Int) < (s.size : Int) := by omega
  have e : isName s = (nums s).all okByte := by unfold isName; simp; omega
  rw [e]
  obtain ⟨R, hR⟩ : ∃ R, (nums s).all okByte = R := ⟨_, rfl⟩
  rw [hR]
  have HR := Lib.hid hR
  clear e hR
  go_enter Tryd.func30, Tryd.ntmps30
  go_wp2_with fail
  go_loopg [14] s.size (fun r i wr => ∃ (j : Nat), Hid (j + r = s.size) ∧ j ≤ s.size ∧ i = .int .i64 (j : Int) ∧ Hid (∀ q, q < j → okByte (at8 s q) = true) ∧ wr = w)
  case atStart => exact ⟨0, Nat.zero_add _, Nat.zero_le _, rfl, fun q hq => absurd hq (Nat.not_lt_zero _), rfl⟩
  case round =>
    obtain ⟨j, hE, hj, rfl, HA, rfl⟩ := hrel
    by_cases hlt : j < s.size
    · have hn := nameByte_any (at8 s j) (at8_lt s j) wr
      rw [at8_eq s j hlt] at hn
      cases hok : okByte (at8 s j)
      · rw [← at8_eq s j hlt, hok] at hn
        have hf : R = false := by
          rw [← HR.out, List.all_eq_false]
          exact ⟨at8 s j, by unfold at8; rw [List.getD, nums_at s j hlt]; exact List.mem_of_getElem? (nums_at s j hlt), by simp [hok]⟩
        subst hf
        rw [at8_eq s j hlt] at hn
        clear hok
        go_wp2_with (go_at_call 48; refine hn.mono ?_; rintro e w2 ⟨rfl, rfl⟩)
        go_ret
        exact ⟨rfl, rfl⟩
      · rw [← at8_eq s j hlt, hok] at hn
        have HO := Lib.hid hok
        rw [at8_eq s j hlt] at hn
        clear hok
        go_wp2_with (go_at_call 48; refine hn.mono ?_; rintro e w2 ⟨rfl, rfl⟩)
        go_roundg (s.size - (j + 1))
        case measure => have := hE.out; omega
        case rel =>
          refine ⟨j + 1, by show _ = _; omega, by omega, by go_num, ?_, rfl⟩
          intro q hq
          by_cases hqj : q = j
          · subst hqj; exact HO.out
          · exact HA.out q (by omega)
    · obtain rfl : j = s.size := by omega
      have ht : R = true := by
        rw [← HR.out, List.all_eq_true]
        intro x hx
        obtain ⟨q, hq⟩ := List.getElem?_of_mem hx
        have hql : q < s.size := by
          rcases Nat.lt_or_ge q s.size with h | h
          · exact h
          · rw [List.getElem?_eq_none (by rw [nums_length]; exact h)] at hq; cases hq
        have := HA.out q hql
        unfold at8 at this
        rw [List.getD, hq] at this
        exact this
      subst ht
      clear hlt hE
      go_wp2
      go_ret
      exact ⟨rfl, rfl⟩

end Go.Proofs.YtanbmlikfhcpoaaDoor.Disk
