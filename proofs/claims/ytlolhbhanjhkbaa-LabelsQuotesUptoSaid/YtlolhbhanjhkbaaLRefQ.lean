/-
  Quotations in the document's answer: contracts of digit, Quote, value. Own text.
-/
import Derived.Test.YtlolhbhanjhkbaaLPureQ
import Derived.Test.YtlolhbhanjhkbaaLAlike
namespace Go.Proofs.Ytlolhbhanjhkbaa.Lab
open Go.RowKit Go Go.Proofs.Ytlolhbhanjhkbaa.Base Go.Shelf Go.Sort Go.Proofs.Ytlolhbhanjhkbaa.Enc

set_option maxRecDepth 100000 in
set_option maxHeartbeats 1000000 in
theorem digit_any (d : Nat) (hd : d < 16) (w : World) :
    Calls Try.prog 58 #[.int .u8 (d : Int)] w fun e w' => e = .returned (.string (strN [hexd d])) ∧ Below w.heap.size w w' := by
  by_cases h : d < 10
  · have hx : hexd d = 48 + d := by unfold hexd; rw [if_pos h]
    rw [hx]
    have h0 := (Bytes8.first w #[.int .u8 (48 + (d : Int))] [48 + d] (by simp [u8s]) (by simp)).text
    have h0' : (convert 82 9 (.slice (some ⟨w.heap.size, 0, none⟩) 1 1)).run Try.prog (w.alloc (.cells #[.int .u8 (48 + (d : Int))] 5)) = .ok (.string (strN [48 + d])) (w.alloc (.cells #[.int .u8 (48 + (d : Int))] 5)) := h0
    generalize strN [48 + d] = T at h0' ⊢
    clear h0 hx
    go_enter Try.func58, Try.ntmps58
    go_wp2_with fail
    go_ret
    exact ⟨rfl, below_alloc _ _⟩
  · have hx : hexd d = 87 + d := by unfold hexd; rw [if_neg h]
    rw [hx]
    have h0 := (Bytes8.first w #[.int .u8 (97 + (d : Int) - 10)] [87 + d] (by simp [u8s]; omega) (by simp)).text
    have h0' : (convert 82 9 (.slice (some ⟨w.heap.size, 0, none⟩) 1 1)).run Try.prog (w.alloc (.cells #[.int .u8 (97 + (d : Int) - 10)] 5)) = .ok (.string (strN [87 + d])) (w.alloc (.cells #[.int .u8 (97 + (d : Int) - 10)] 5)) := h0
    generalize strN [87 + d] = T at h0' ⊢
    clear h0 hx
    go_enter Try.func58, Try.ntmps58
    go_wp2_with fail
    go_ret
    exact ⟨rfl, below_alloc _ _⟩

set_option maxRecDepth 100000 in
set_option maxHeartbeats 1000000 in
theorem value_any (c : Nat) (hc : c < 256) (w : World) :
    Calls Try.prog 56 #[.int .u8 (c : Int)] w fun e w' => e = .returned (.int .i64 (hexv c : Int)) ∧ w = w' := by
  unfold hexv
  by_cases a : 48 ≤ c
  · by_cases b : c ≤ 57
    · rw [if_pos ⟨a, b⟩, (by omega : ((c - 48 : Nat) : Int) = (c : Int) - 48)]
      go_enter Try.func56, Try.ntmps56
      go_wp2_with fail
      go_ret
      exact ⟨rfl, rfl⟩
    · rw [if_neg (by omega)]
      by_cases d : 97 ≤ c
      · by_cases e : c ≤ 102
        · rw [if_pos ⟨d, e⟩, (by omega : ((c - 87 : Nat) : Int) = (c : Int) - 97 + 10)]
          go_enter Try.func56, Try.ntmps56
          go_wp2_with fail
          go_ret
          exact ⟨rfl, rfl⟩
        · rw [if_neg (by omega)]
          go_enter Try.func56, Try.ntmps56
          go_wp2_with fail
          go_ret
          exact ⟨rfl, rfl⟩
      · rw [if_neg (by omega)]
        go_enter Try.func56, Try.ntmps56
        go_wp2_with fail
        go_ret
        exact ⟨rfl, rfl⟩
  · have d : ¬ 97 ≤ c := by omega
    rw [if_neg (by omega), if_neg (by omega)]
    go_enter Try.func56, Try.ntmps56
    go_wp2_with fail
    go_ret
    exact ⟨rfl, rfl⟩

theorem qb_out {b : Nat} (h : ¬ (32 ≤ b ∧ b ≤ 126)) : strN (qb b) = ⟨#[92, 120]⟩ ++ strN [hexd (b / 16)] ++ strN [hexd (b % 16)] := by
  have : prB b = false := prB_no.2 h
  unfold qb
  rw [if_pos this]
  show strN ([92, 120] ++ [hexd (b / 16)] ++ [hexd (b % 16)]) = _
  rw [strN_append, strN_append]
  rfl
theorem one_cut (s : ByteArray) (k : Nat) (h : k < s.size) : strN [at8 s k] = s.extract k (k + 1) := by
  apply nums_inj
  rw [seg_extract, seg_one s k h, strN_nums]
  intro x hx
  rw [List.mem_singleton.1 hx]
  exact at8_lt s k

set_option maxRecDepth 100000 in
set_option maxHeartbeats 4000000 in
theorem refQuote_any (s : ByteArray) (hs : s.size ≤ 17592186044416) (w : World) :
    Calls Try.prog 36 #[.string s] w fun e w' => e = .returned (.string (quoteS s)) ∧ Below w.heap.size w w' := by
  have hd := fun (d : Nat) (h : d < 16) W => digit_any d h W
  have HD := Lib.hid hd
  have HS := Lib.hid hs
  clear hd hs
  go_enter Try.func36, Try.ntmps36
  go_wp2_with fail
  go_loopg [3, 4] s.size (fun r q i wr => ∃ (k : Nat) (T : ByteArray), Hid (k + r = s.size) ∧ k ≤ s.size ∧ i = .int .i64 (k : Int) ∧ q = .string T ∧ T.size ≤ 4 * k + 1 ∧ Hid (T = strN (34 :: ((nums s).take k).flatMap qb)) ∧ Below w.heap.size w wr)
  case atStart => exact ⟨0, _, Nat.zero_add _, Nat.zero_le _, rfl, rfl, by decide, rfl, Below.refl _ _⟩
  case round =>
    obtain ⟨k, T, hE, hk, rfl, rfl, hT, HT, hB⟩ := hrel
    have hk2 := HS.out
    by_cases hlt : k < s.size
    · have hft := flat_take (nums s) k (by rw [nums_length]; exact hlt)
      have hb8 : (nums s).getD k 0 = at8 s k := rfl
      have h8 := at8_eq s k hlt
      rw [hb8] at hft
      have hnew : strN (34 :: ((nums s).take (k + 1)).flatMap qb) = T ++ strN (qb (at8 s k)) := by
        rw [hft, HT.out, ← strN_append]
        rfl
      have hq1 := qb_length (at8 s k)
      have hc := one_cut s k hlt
      have hcz : (s.extract k (k + 1)).size = 1 := by rw [ByteArray.size_extract]; omega
      have hbl := at8_lt s k
      by_cases p : 32 ≤ at8 s k ∧ at8 s k ≤ 126
      · have pr : prB (at8 s k) = true := prB_yes.2 p
        by_cases q : at8 s k = 34 ∨ at8 s k = 92
        · have hqb : strN (qb (at8 s k)) = ⟨#[92]⟩ ++ s.extract k (k + 1) := by
            unfold qb
            rw [if_neg (by rw [pr]; decide), if_pos q]
            show strN ([92] ++ [at8 s k]) = _
            rw [strN_append, hc]
            rfl
          rw [hqb, ← bytes_assoc] at hnew
          rw [h8] at p q
          have HN := Lib.hid hnew
          clear hnew hqb hft hb8 h8 hq1 hc pr hbl
          generalize hX : s.extract k (k + 1) = X at HN hcz
          have g1 : (⟨#[92]⟩ : ByteArray).size = 1 := rfl
          have hbv : (((s[k]'hlt).toNat : Int) == 34) = true ∨ ((((s[k]'hlt).toNat : Int) == 34) = false ∧ (((s[k]'hlt).toNat : Int) == 92) = true) := by
            rcases q with h | h
            · left; rw [beq_iff_eq]; omega
            · right; exact ⟨by rw [beq_eq_false_iff_ne]; omega, by rw [beq_iff_eq]; omega⟩
          clear q
          rcases hbv with e1 | ⟨e1, e2⟩
          all_goals
            go_wp2_with fail
            go_roundg (s.size - (k + 1))
            case measure => have := hE.out; omega
            case rel => exact ⟨k + 1, _, by show _ = _; omega, by omega, by go_num, rfl, by rw [ByteArray.size_append, ByteArray.size_append]; omega, HN.out.symm, hB⟩
        · have hqb : strN (qb (at8 s k)) = s.extract k (k + 1) := by
            unfold qb
            rw [if_neg (by rw [pr]; decide), if_neg q, hc]
          rw [hqb] at hnew
          rw [h8] at p q
          have HN := Lib.hid hnew
          clear hnew hqb hft hb8 h8 hq1 hc pr hbl
          generalize hX : s.extract k (k + 1) = X at HN hcz
          have e1 : (((s[k]'hlt).toNat : Int) == 34) = false := by rw [beq_eq_false_iff_ne]; omega
          have e2 : (((s[k]'hlt).toNat : Int) == 92) = false := by rw [beq_eq_false_iff_ne]; omega
          clear q
          go_wp2_with fail
          go_roundg (s.size - (k + 1))
          case measure => have := hE.out; omega
          case rel => exact ⟨k + 1, _, by show _ = _; omega, by omega, by go_num, rfl, by rw [ByteArray.size_append]; omega, HN.out.symm, hB⟩
      · rw [qb_out p, ← bytes_assoc, ← bytes_assoc] at hnew
        have hd1 := fun W => HD.out (at8 s k / 16) (by omega) W
        have hd2 := fun W => HD.out (at8 s k % 16) (by omega) W
        generalize hX : strN [hexd (at8 s k / 16)] = X at hnew hd1
        generalize hY : strN [hexd (at8 s k % 16)] = Y at hnew hd2
        have hxz : X.size = 1 := by rw [← hX, strN_size]; rfl
        have hyz : Y.size = 1 := by rw [← hY, strN_size]; rfl
        have hd1b := hd1
        have hd2b := hd2
        rw [(by omega : ((at8 s k / 16 : Nat) : Int) = (s[k].toNat : Int) / 16 % 256)] at hd1
        rw [(by omega : ((at8 s k / 16 : Nat) : Int) = (s[k].toNat : Int) / 16)] at hd1b
        rw [(by omega : ((at8 s k % 16 : Nat) : Int) = (s[k].toNat : Int) % 16 % 256)] at hd2b
        rw [(by omega : ((at8 s k % 16 : Nat) : Int) = (s[k].toNat : Int) % 16)] at hd2
        rw [h8] at p
        have HN := Lib.hid hnew
        have HD1 := Lib.hid hd1
        have HD2 := Lib.hid hd2
        have HD1b := Lib.hid hd1b
        have HD2b := Lib.hid hd2b
        clear hnew hft hb8 h8 hq1 hc hbl hX hY hd1 hd2 hd1b hd2b hcz
        have g1 : (⟨#[92, 120]⟩ : ByteArray).size = 2 := rfl
        have hbv : ((s[k]'hlt).toNat < 32) ∨ (32 ≤ (s[k]'hlt).toNat ∧ 126 < (s[k]'hlt).toNat) := by omega
        clear p
        rcases hbv with e1 | ⟨e1, e2⟩
        all_goals
          go_wp2_with (first
            | (go_at_call 58; ((with_reducible refine (HD1.out _).mono ?_); rintro e w5 ⟨rfl, hb5⟩))
            | (go_at_call 58; ((with_reducible refine (HD1b.out _).mono ?_); rintro e w5 ⟨rfl, hb5⟩))
            | (go_at_call 58; ((with_reducible refine (HD2.out _).mono ?_); rintro e w6 ⟨rfl, hb6⟩))
            | (go_at_call 58; ((with_reducible refine (HD2b.out _).mono ?_); rintro e w6 ⟨rfl, hb6⟩)))
          go_roundg (s.size - (k + 1))
          case measure => have := hE.out; omega
          case rel => exact ⟨k + 1, _, by show _ = _; omega, by omega, by go_num, rfl, by rw [ByteArray.size_append, ByteArray.size_append, ByteArray.size_append]; omega, HN.out.symm, le_below hB (le_below hb5 hb6)⟩
    · obtain rfl : k = s.size := by omega
      have hq : quoteS s = T ++ ⟨#[34]⟩ := by
        unfold quoteS quoteN
        rw [HT.out, List.take_of_length_le (by rw [nums_length]; omega)]
        show strN ((34 :: (nums s).flatMap qb) ++ [34]) = _
        rw [strN_append]
        rfl
      have HQ := Lib.hid hq
      have g1 : (⟨#[34]⟩ : ByteArray).size = 1 := rfl
      clear hq
      go_wp2_with fail
      go_ret
      exact ⟨by rw [HQ.out]; rfl, hB⟩

end Go.Proofs.Ytlolhbhanjhkbaa.Lab
