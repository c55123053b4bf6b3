/-
  The document's answer: its names and paths. Own text.
-/
import Derived.Test.YtbgogipdldegdaaGreatDoorDNil2
namespace Go.Proofs.YtbgogipdldegdaaGreatDoor.Disk
open Go.RowKit Go Go.Proofs.YtbgogipdldegdaaGreatDoor.Base Go.Proofs.YtbgogipdldegdaaGreatDoor.Map

set_option maxRecDepth 100000 in
set_option maxHeartbeats 4000000 in
theorem refIsName (s : ByteArray) (hs : s.size < 4611686018427387904) (w : World) : Calls Tryz.prog 59 #[.string s] w fun r w' => r = .returned (.bool (isName s)) ∧ w = w' := by
  obtain ⟨R, hR⟩ : ∃ R, (nums s).all okByte = R := ⟨_, rfl⟩
  have e : isName s = (decide (1 ≤ s.size ∧ s.size ≤ 32) && R) := by unfold isName; rw [hR]
  rw [e]
  have HR := Lib.hid hR
  clear e hR
  go_enter Tryz.func59, Tryz.ntmps59
  go_wp2_with fail
  go_loopg [3] s.size (fun r i wr => ∃ (j : Nat), Hid (j + r = s.size) ∧ j ≤ s.size ∧ i = .int .i64 (j : Int) ∧ Hid (∀ q, q < j → okByte (at8 s q) = true) ∧ wr = w)
  case atStart => exact ⟨0, Nat.zero_add _, Nat.zero_le _, rfl, fun q hq => absurd hq (Nat.not_lt_zero _), rfl⟩
  case round =>
    obtain ⟨j, hE, hj, rfl, HA, rfl⟩ := hrel
    by_cases hlt : j < s.size
    · have hl := at8_lt s j
      cases hok : okByte (at8 s j)
      · have hf : R = false := by
          rw [← HR.out, List.all_eq_false]
          exact ⟨at8 s j, by unfold at8; rw [List.getD, nums_at s j hlt]; exact List.mem_of_getElem? (nums_at s j hlt), by simp [hok]⟩
        subst hf
        by_cases h1 : (97 : Int) ≤ (at8 s j : Int) <;> by_cases h2 : ((at8 s j : Nat) : Int) ≤ 122 <;> by_cases h3 : (48 : Int) ≤ (at8 s j : Int) <;> by_cases h4 : ((at8 s j : Nat) : Int) ≤ 57 <;> by_cases h5 : ((at8 s j : Nat) : Int) = 46 <;> by_cases h6 : ((at8 s j : Nat) : Int) = 45
        all_goals first
          | (exfalso; unfold okByte at hok; simp at hok; omega)
          | ((first | have b5 : (((at8 s j : Nat) : Int) != 46) = true := by simp [h5] | have b5 : (((at8 s j : Nat) : Int) != 46) = false := by simp [h5])
             (first | have b6 : (((at8 s j : Nat) : Int) != 45) = true := by simp [h6] | have b6 : (((at8 s j : Nat) : Int) != 45) = false := by simp [h6])
             rw [at8_eq s j hlt] at h1 h2 h3 h4 h5 h6 b5 b6
             clear hok hl
             go_wp2
             go_ret
             exact ⟨ret_bool (by simp), rfl⟩)
      · have HO := Lib.hid hok
        by_cases h1 : (97 : Int) ≤ (at8 s j : Int) <;> by_cases h2 : ((at8 s j : Nat) : Int) ≤ 122 <;> by_cases h3 : (48 : Int) ≤ (at8 s j : Int) <;> by_cases h4 : ((at8 s j : Nat) : Int) ≤ 57 <;> by_cases h5 : ((at8 s j : Nat) : Int) = 46 <;> by_cases h6 : ((at8 s j : Nat) : Int) = 45
        all_goals first
          | (exfalso; unfold okByte at hok; simp at hok; omega)
          | ((first | have b5 : (((at8 s j : Nat) : Int) != 46) = true := by simp [h5] | have b5 : (((at8 s j : Nat) : Int) != 46) = false := by simp [h5])
             (first | have b6 : (((at8 s j : Nat) : Int) != 45) = true := by simp [h6] | have b6 : (((at8 s j : Nat) : Int) != 45) = false := by simp [h6])
             rw [at8_eq s j hlt] at h1 h2 h3 h4 h5 h6 b5 b6
             clear hok hl
             go_wp2
             go_roundg (s.size - (j + 1))
             case measure => have := hE.out; omega
             case rel =>
               refine ⟨j + 1, by show _ = _; omega, by omega, by go_num, ?_, rfl⟩
               intro q hq
               by_cases hqj : q = j
               · subst hqj; exact HO.out
               · exact HA.out q (by omega))
    · obtain rfl : j = s.size := by omega
      have ht : R = true := by
        rw [← HR.out, List.all_eq_true]
        intro x hx
        obtain ⟨q, hq⟩ := List.getElem?_of_mem hx
        have hql : q < s.size := by
          rcases Nat.lt_or_ge q s.size with h | h
          · exact h
          · rw [List.getElem?_eq_none (by rw [nums_length]; exact h)] at hq; cases hq
        have := HA.out q hql
        unfold at8 at this
        rw [List.getD, hq] at this
        exact this
      subst ht
      clear hlt hE
      by_cases k1 : (1 : Int) ≤ (s.size : Int) <;> by_cases k2 : (s.size : Int) ≤ 32
      all_goals
        go_wp2
        go_ret
        refine ⟨ret_bool ?_, rfl⟩
        rw [Bool.eq_iff_iff]
        simp
        try omega

def slI (s : ByteArray) : Int := if sl s < s.size then (sl s : Int) else -1

set_option maxRecDepth 100000 in
set_option maxHeartbeats 4000000 in
theorem refSlash (s : ByteArray) (hs : s.size < 4611686018427387904) (w : World) : Calls Tryz.prog 61 #[.string s] w fun r w' => r = .returned (.int .i64 (slI s)) ∧ w = w' := by
  obtain ⟨R, hR⟩ : ∃ R, slI s = R := ⟨_, rfl⟩
  rw [hR]
  have HR := Lib.hid hR
  clear hR
  go_enter Tryz.func61, Tryz.ntmps61
  go_wp2_with fail
  go_loopg [3] s.size (fun r i wr => ∃ (j : Nat), Hid (j + r = s.size) ∧ j ≤ s.size ∧ i = .int .i64 (j : Int) ∧ Hid (j ≤ sl s) ∧ wr = w)
  case atStart => exact ⟨0, Nat.zero_add _, Nat.zero_le _, rfl, Nat.zero_le _, rfl⟩
  case round =>
    obtain ⟨j, hE, hj, rfl, HA, rfl⟩ := hrel
    by_cases hlt : j < s.size
    · have hl := at8_lt s j
      by_cases h1 : ((at8 s j : Nat) : Int) = 47
      · have hsl : sl s = j := by
          rcases Nat.lt_or_ge j (sl s) with h | h
          · exact absurd (by omega) (sl_before s j h)
          · have := HA.out; omega
        have hRj : R = (j : Int) := by rw [← HR.out]; unfold slI; rw [hsl, if_pos hlt]
        subst hRj
        have b1 : (((at8 s j : Nat) : Int) == 47) = true := by simp [h1]
        rw [at8_eq s j hlt] at h1 b1
        clear hl hsl
        go_wp2
        go_ret
        exact ⟨rfl, rfl⟩
      · have hn : j < sl s := by
          have := HA.out
          rcases Nat.lt_or_ge j (sl s) with h | h
          · exact h
          · exfalso
            have e : sl s = j := by omega
            have := sl_at s (by omega)
            rw [e] at this
            exact h1 (by omega)
        have HN := Lib.hid hn
        have b1 : (((at8 s j : Nat) : Int) == 47) = false := by simp [h1]
        rw [at8_eq s j hlt] at h1 b1
        clear hl hn
        go_wp2
        go_roundg (s.size - (j + 1))
        case measure => have := hE.out; omega
        case rel => exact ⟨j + 1, by show _ = _; omega, by omega, by go_num, HN.out, rfl⟩
    · obtain rfl : j = s.size := by omega
      have hRj : R = -1 := by rw [← HR.out]; unfold slI; rw [if_neg (by have := HA.out; omega)]
      subst hRj
      clear hlt hE
      go_wp2
      go_ret
      exact ⟨rfl, rfl⟩

set_option maxRecDepth 100000 in
set_option maxHeartbeats 4000000 in
theorem refIsPath (s : ByteArray) (hs : s.size < 4611686018427387904) (w : World) : Calls Tryz.prog 70 #[.string s] w fun r w' => r = .returned (.bool (isPath s)) ∧ Below w.heap.size w w' := by
  have h1 := refSlash s hs
  have h2 := fun W => refIsName s hs W
  have hl := sl_le s
  by_cases hk : sl s < s.size
  · have e1 : slI s = (sl s : Int) := by unfold slI; rw [if_pos hk]
    have e2 : isPath s = (isName (s.extract 0 (sl s)) && isName (s.extract (sl s + 1) s.size)) := by unfold isPath; rw [if_pos hk]
    rw [e2]
    rw [e1] at h1
    have h3 := fun W => refIsName (s.extract 0 (sl s)) (by rw [ByteArray.size_extract]; omega) W
    have h4 := fun W => refIsName (s.extract (sl s + 1) s.size) (by rw [ByteArray.size_extract]; omega) W
    obtain ⟨k, hkk⟩ : ∃ k, sl s = k := ⟨_, rfl⟩
    rw [hkk] at h1 h3 h4 hk hl ⊢
    clear hkk e1 e2 h2
    go_enter Tryz.func70, Tryz.ntmps70
    go_wp2_with (first
      | (go_at_call 61; refine (h1 _).mono ?_; rintro r w2 ⟨rfl, rfl⟩)
      | (go_at_call 59; ((with_reducible refine (h3 _).mono ?_); rintro r w2 ⟨rfl, rfl⟩))
      | (go_at_call 59; ((with_reducible refine (h4 _).mono ?_); rintro r w2 ⟨rfl, rfl⟩)))
    all_goals
      go_ret
      first
        | (exfalso; omega)
        | exact ⟨ret_bool (by simp_all), bel _⟩
  · have e1 : slI s = -1 := by unfold slI; rw [if_neg hk]
    have e2 : isPath s = isName s := by unfold isPath; rw [if_neg hk]
    rw [e2]
    rw [e1] at h1
    clear hk hl
    go_enter Tryz.func70, Tryz.ntmps70
    go_wp2_with (first
      | (go_at_call 61; refine (h1 _).mono ?_; rintro r w2 ⟨rfl, rfl⟩)
      | (go_at_call 59; refine (h2 _).mono ?_; rintro r w2 ⟨rfl, rfl⟩))
    go_ret
    exact ⟨rfl, bel _⟩

end Go.Proofs.YtbgogipdldegdaaGreatDoor.Disk
