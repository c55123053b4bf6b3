/-
  Numbers read from bytes: contract of the document's answer. Own text.
-/
import Derived.Test.YtcpkogboaniehaaMRead
namespace Go.Proofs.Ytcpkogboaniehaa.Enc
open Go.RowKit Go Go.Proofs.Ytcpkogboaniehaa.Base

theorem refReadUint_in (s : ByteArray) (a k v n e : Nat) (hs : s.size ≤ 140737488351232) (ha : a < s.size) (hk9 : k ≤ 9) (hk : a + k ≤ s.size) (hd : ∀ i, i < k → 128 ≤ at8 s (a + i)) (hR : Reads s a k v n e) (w : World) :
    Calls Try.prog 42 #[.string s, .int .i64 (a : Int)] w fun e' w' => e' = .returned (.tuple #[.int .u64 (v : Int), .int .i64 (n : Int), .int .i64 (e : Int)]) ∧ w = w' := by
  have Hd := Lib.hid hd
  have HR := Lib.hid hR
  clear hd hR
  have hneg : decide ((a : Int) < 0) = false := by simp
  have hge : decide (s.size ≤ a) = false := by simp; omega
  go_enter Try.func42, Try.ntmps42
  go_wp2_with fail
  go_loopg [7] k (fun r i wr => ∃ j : Nat, Hid (j + r = k) ∧ j ≤ k ∧ i = .int .i64 ((a + j : Nat) : Int) ∧ wr = w)
  case atStart => exact ⟨0, by show _ = _; omega, by omega, rfl, rfl⟩
  case round =>
    obtain ⟨j, hE, hj, rfl, rfl⟩ := hrel
    by_cases hjk : j < k
    · have hin : a + j < s.size := by omega
      have h128 : 127 < (s[a + j]'hin).toNat := by have := Hd.out j hjk; rw [at8_eq s _ hin] at this; omega
      go_wp2_with fail
      go_roundg (k - (j + 1))
      case measure => have := hE.out; omega
      case rel => exact ⟨j + 1, by show _ = _; omega, by omega, by go_num, rfl⟩
    · obtain rfl : j = k := by omega
      clear hE hj
      have hR := HR.out
      clear HR
      cases hR with
      | short h =>
        have h1 : ¬ (a : Int) + (j : Int) < (s.size : Int) := by omega
        have h2 : ((a : Int) + (j : Int) == (s.size : Int)) = true := by simp; omega
        clear h
        go_wp2_with fail
        go_ret3
        exact ⟨rfl, rfl⟩
      | bad hin hb =>
        obtain ⟨d, hde⟩ : ∃ d, (s[a + j]'hin).toNat = d := ⟨_, rfl⟩
        have hdat := at8_eq s (a + j) hin
        rw [hdat, hde] at hb
        have h2 : ((a : Int) + (j : Int) == (s.size : Int)) = false := by simp; omega
        clear hdat
        by_cases h9 : j = 9 ∧ 1 < d
        · obtain ⟨rfl, h1d⟩ := h9
          have h1i : (1 : Int) < (d : Int) := by omega
          clear hb
          go_wp2_with fail
          go_ret3
          exact ⟨rfl, rfl⟩
        · have hd0 : d = 0 ∧ 0 < j := by omega
          obtain ⟨rfl, hj0⟩ := hd0
          have hj0i : (a : Int) < (a : Int) + (j : Int) := by omega
          clear hb h9
          by_cases h9 : j = 9
          · subst h9
            go_wp2_with fail
            go_ret3
            exact ⟨rfl, rfl⟩
          · have h9i : (j : Int) < 9 := by omega
            have h9b : ((a : Int) + (j : Int) == (a : Int) + 9) = false := by simp; omega
            go_wp2_with fail
            all_goals
              go_ret3
              exact ⟨rfl, rfl⟩
      | good hin h1 h2 h3 =>
        obtain ⟨d, hde⟩ : ∃ d, (s[a + j]'hin).toNat = d := ⟨_, rfl⟩
        have hdat := at8_eq s (a + j) hin
        have hv64 := Var.val_64 (at8 s) a j (by omega)
        obtain ⟨V, hV⟩ : ∃ V, V = Var.val (at8 s) a (j + 1) := ⟨_, rfl⟩
        rw [← hV] at hv64
        rw [hdat, hde] at h1 h2 h3
        have h2b : ((a : Int) + (j : Int) == (s.size : Int)) = false := by simp; omega
        have HV := Lib.hid hV
        have HV64 := Lib.hid hv64
        clear hdat hV hv64
        have h127 : (d : Int) ≤ 127 := by omega
        have hcases : (j = 9 ∧ d ≤ 1 ∧ d ≠ 0) ∨ (j = 0) ∨ (0 < j ∧ j < 9 ∧ d ≠ 0) := by omega
        clear h1 h2 h3
        rcases hcases with ⟨rfl, hd1, hd0⟩ | rfl | ⟨hj0, hj9, hd0⟩
        · have hd1i : ¬ (1 : Int) < (d : Int) := by omega
          have hd0i : ((d : Int) == 0) = false := by simp; omega
          go_wp2_with fail
          clear hde
          go_loopg [8, 9] (9 + 1) (fun r y i wx => ∃ (y' : Nat) (z : Int), Hid (z = (a : Int) + (r : Int) - 1) ∧ r ≤ 9 + 1 ∧ i = .int .i64 z ∧ y = .int .u64 (y' : Int) ∧ Hid (y' = Var.val (at8 s) (a + r) (9 + 1 - r)) ∧ wx = wr)
          case atStart => exact ⟨0, (a : Int) + ((9 + 1 : Nat) : Int) - 1, rfl, Nat.le_refl _, by go_num, rfl, by show _ = _; rw [Nat.sub_self]; rfl, rfl⟩
          case round =>
            obtain ⟨y, z, hz, hr, rfl, rfl, hy, rfl⟩ := hrel
            by_cases hp : gk = 0
            · subst hp
              have hzlt : ¬ (a : Int) ≤ z := by have := hz.out; omega
              have hyv := hy.out
              simp only [Nat.add_zero, Nat.sub_zero] at hyv
              have HY := Lib.hid hyv
              clear hyv
              go_wp2_with fail
              go_ret3
              exact ⟨ret_three (by rw [HY.out]) (by omega) rfl, rfl⟩
            · obtain ⟨q, rfl⟩ : ∃ q, gk = q + 1 := ⟨gk - 1, by omega⟩
              obtain rfl : z = (a : Int) + (q : Int) := by have := hz.out; omega
              have hinq : a + q < s.size := by omega
              obtain ⟨b, hb⟩ : ∃ b, (s[a + q]'hinq).toNat = b := ⟨_, rfl⟩
              have hbat := at8_eq s (a + q) hinq
              rw [hb] at hbat
              have hb8 : b < 256 := by rw [← hb]; exact (s[a + q]'hinq).toNat_lt
              have hnext : y * 128 + b % 128 = Var.val (at8 s) (a + q) (9 + 1 - q) := by
                rw [show 9 + 1 - q = (9 + 1 - (q + 1)) + 1 from by omega, Var.val_front, hy.out, hbat, show a + (q + 1) = a + q + 1 from by omega]
                omega
              have hle : y * 128 + b % 128 ≤ V := by
                rw [hnext, HV.out]
                have := Var.val_tail (at8 s) a q (9 + 1 - q)
                rwa [show q + (9 + 1 - q) = 9 + 1 from by omega] at this
              have hlt64 : y * 128 + b % 128 < 18446744073709551616 := Nat.lt_of_le_of_lt hle HV64.out
              have w1 : IntKind.u64.wrap ((y : Int) * 128) = (y : Int) * 128 := by rw [IntKind.wrap_u64]; omega
              have w2 : IntKind.u64.wrap ((y : Int) * 128 + (b : Int) % 128) = (y : Int) * 128 + (b : Int) % 128 := by rw [IntKind.wrap_u64]; omega
              have HN := Lib.hid hnext
              clear hbat hnext hle hlt64
              go_wp2_with fail
              go_roundg q
              case measure => omega
              case rel => exact ⟨y * 128 + b % 128, (a : Int) + (q : Int) - 1, rfl, by omega, by go_num, by go_num, HN, rfl⟩
        · have k1 : ((a : Int) == (s.size : Int)) = false := by simp; omega
          have k2 : ((s[a]'ha).toNat : Int) ≤ 127 := by have : (s[a]'ha).toNat = d := hde; omega
          have k3 : ((a : Int) == (a : Int) + 9) = false := by simp; omega
          clear hde h2b
          go_wp2_with fail
          go_loopg [8, 9] (0 + 1) (fun r y i wx => ∃ (y' : Nat) (z : Int), Hid (z = (a : Int) + (r : Int) - 1) ∧ r ≤ 0 + 1 ∧ i = .int .i64 z ∧ y = .int .u64 (y' : Int) ∧ Hid (y' = Var.val (at8 s) (a + r) (0 + 1 - r)) ∧ wx = wr)
          case atStart => exact ⟨0, (a : Int) + ((0 + 1 : Nat) : Int) - 1, rfl, Nat.le_refl _, by go_num, rfl, by show _ = _; rw [Nat.sub_self]; rfl, rfl⟩
          case round =>
            obtain ⟨y, z, hz, hr, rfl, rfl, hy, rfl⟩ := hrel
            by_cases hp : gk = 0
            · subst hp
              have hzlt : ¬ (a : Int) ≤ z := by have := hz.out; omega
              have hyv := hy.out
              simp only [Nat.add_zero, Nat.sub_zero] at hyv
              have HY := Lib.hid hyv
              clear hyv
              go_wp2_with fail
              go_ret3
              exact ⟨ret_three (by rw [HY.out]) (by omega) rfl, rfl⟩
            · obtain ⟨q, rfl⟩ : ∃ q, gk = q + 1 := ⟨gk - 1, by omega⟩
              obtain rfl : z = (a : Int) + (q : Int) := by have := hz.out; omega
              have hinq : a + q < s.size := by omega
              obtain ⟨b, hb⟩ : ∃ b, (s[a + q]'hinq).toNat = b := ⟨_, rfl⟩
              have hbat := at8_eq s (a + q) hinq
              rw [hb] at hbat
              have hb8 : b < 256 := by rw [← hb]; exact (s[a + q]'hinq).toNat_lt
              have hnext : y * 128 + b % 128 = Var.val (at8 s) (a + q) (0 + 1 - q) := by
                rw [show 0 + 1 - q = (0 + 1 - (q + 1)) + 1 from by omega, Var.val_front, hy.out, hbat, show a + (q + 1) = a + q + 1 from by omega]
                omega
              have hle : y * 128 + b % 128 ≤ V := by
                rw [hnext, HV.out]
                have := Var.val_tail (at8 s) a q (0 + 1 - q)
                rwa [show q + (0 + 1 - q) = 0 + 1 from by omega] at this
              have hlt64 : y * 128 + b % 128 < 18446744073709551616 := Nat.lt_of_le_of_lt hle HV64.out
              have w1 : IntKind.u64.wrap ((y : Int) * 128) = (y : Int) * 128 := by rw [IntKind.wrap_u64]; omega
              have w2 : IntKind.u64.wrap ((y : Int) * 128 + (b : Int) % 128) = (y : Int) * 128 + (b : Int) % 128 := by rw [IntKind.wrap_u64]; omega
              have HN := Lib.hid hnext
              clear hbat hnext hle hlt64
              go_wp2_with fail
              go_roundg q
              case measure => omega
              case rel => exact ⟨y * 128 + b % 128, (a : Int) + (q : Int) - 1, rfl, by omega, by go_num, by go_num, HN, rfl⟩
        · have hd0i : ((d : Int) == 0) = false := by simp; omega
          have hj9i : (j : Int) < 9 := by omega
          have hj0i : (a : Int) < (a : Int) + (j : Int) := by omega
          have h9b : ((a : Int) + (j : Int) == (a : Int) + 9) = false := by simp; omega
          go_wp2_with fail
          clear hde
          go_loopg [8, 9] (j + 1) (fun r y i wx => ∃ (y' : Nat) (z : Int), Hid (z = (a : Int) + (r : Int) - 1) ∧ r ≤ j + 1 ∧ i = .int .i64 z ∧ y = .int .u64 (y' : Int) ∧ Hid (y' = Var.val (at8 s) (a + r) (j + 1 - r)) ∧ wx = wr)
          case atStart => exact ⟨0, (a : Int) + ((j + 1 : Nat) : Int) - 1, rfl, Nat.le_refl _, by go_num, rfl, by show _ = _; rw [Nat.sub_self]; rfl, rfl⟩
          case round =>
            obtain ⟨y, z, hz, hr, rfl, rfl, hy, rfl⟩ := hrel
            by_cases hp : gk = 0
            · subst hp
              have hzlt : ¬ (a : Int) ≤ z := by have := hz.out; omega
              have hyv := hy.out
              simp only [Nat.add_zero, Nat.sub_zero] at hyv
              have HY := Lib.hid hyv
              clear hyv
              go_wp2_with fail
              go_ret3
              exact ⟨ret_three (by rw [HY.out]) (by omega) rfl, rfl⟩
            · obtain ⟨q, rfl⟩ : ∃ q, gk = q + 1 := ⟨gk - 1, by omega⟩
              obtain rfl : z = (a : Int) + (q : Int) := by have := hz.out; omega
              have hinq : a + q < s.size := by omega
              obtain ⟨b, hb⟩ : ∃ b, (s[a + q]'hinq).toNat = b := ⟨_, rfl⟩
              have hbat := at8_eq s (a + q) hinq
              rw [hb] at hbat
              have hb8 : b < 256 := by rw [← hb]; exact (s[a + q]'hinq).toNat_lt
              have hnext : y * 128 + b % 128 = Var.val (at8 s) (a + q) (j + 1 - q) := by
                rw [show j + 1 - q = (j + 1 - (q + 1)) + 1 from by omega, Var.val_front, hy.out, hbat, show a + (q + 1) = a + q + 1 from by omega]
                omega
              have hle : y * 128 + b % 128 ≤ V := by
                rw [hnext, HV.out]
                have := Var.val_tail (at8 s) a q (j + 1 - q)
                rwa [show q + (j + 1 - q) = j + 1 from by omega] at this
              have hlt64 : y * 128 + b % 128 < 18446744073709551616 := Nat.lt_of_le_of_lt hle HV64.out
              have w1 : IntKind.u64.wrap ((y : Int) * 128) = (y : Int) * 128 := by rw [IntKind.wrap_u64]; omega
              have w2 : IntKind.u64.wrap ((y : Int) * 128 + (b : Int) % 128) = (y : Int) * 128 + (b : Int) % 128 := by rw [IntKind.wrap_u64]; omega
              have HN := Lib.hid hnext
              clear hbat hnext hle hlt64
              go_wp2_with fail
              go_roundg q
              case measure => omega
              case rel => exact ⟨y * 128 + b % 128, (a : Int) + (q : Int) - 1, rfl, by omega, by go_num, by go_num, HN, rfl⟩

theorem refReadUint_any (s : ByteArray) (a : Int) (hs : s.size ≤ 140737488351232) (w : World) :
    Calls Try.prog 42 #[.string s, .int .i64 a] w fun e' w' => e' = .returned (.tuple #[.int .u64 (rdV s a : Int), .int .i64 (rdN s a : Int), .int .i64 (rdE s a : Int)]) ∧ w = w' := by
  by_cases h : a < 0 ∨ (s.size : Int) ≤ a
  · have h20 := rdE_out s a h
    rw [rdV_err s a (by omega), rdN_err s a (by omega), h20]
    clear h20
    by_cases h0 : a < 0
    · go_enter Try.func42, Try.ntmps42
      go_wp2_with fail
      go_ret3
      exact ⟨rfl, rfl⟩
    · have h1 : (s.size : Int) ≤ a := by omega
      clear h
      go_enter Try.func42, Try.ntmps42
      go_wp2_with fail
      go_ret3
      exact ⟨rfl, rfl⟩
  · obtain ⟨b, rfl⟩ := Int.eq_ofNat_of_zero_le (show 0 ≤ a by omega)
    have hb : b < s.size := by omega
    obtain ⟨h1, h2, h3⟩ := kk_spec s b hb
    exact refReadUint_in s b (kk s b) _ _ _ hs hb h1 h2 h3 (reads_of s b hb) w

end Go.Proofs.Ytcpkogboaniehaa.Enc
