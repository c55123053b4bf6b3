/-
  The document's answer for layer 1: contracts of its functions. Own text.
-/
import Derived.Test.YtmenhgdedllioaaBytes
import Derived.Test.YtmenhgdedllioaaBitl
namespace Go.Proofs.Ytmenhgdedllioaa.Bits
open Go.RowKit Go

theorem refWidth_any (n : Int) (w : World) :
    Calls Try.prog 17 #[.int .i64 n] w fun e w' => e = .returned (.int .i64 ((wide n : Nat) : Int)) ∧ w = w' := by
  go_enter Try.func17, Try.ntmps17
  go_wp2
  all_goals
    go_ret
    exact ⟨ret_int (by unfold wide; omega), rfl⟩

/-- a list of bits, owned -/
structure Bl (w : World) (B : Nat) (v : Value) (L : List Nat) : Prop where
  own : w.ownsRow B 5 1 v L.length (u8s L)
  bits : Num.IsBits L

theorem refPut_any {B : Nat} {v : Value} {L : List Nat} (x : Nat) (n : Int) (w : World) (h : Bl w B v L) (hx : x < 18446744073709551616) (hc : L.length ≤ 1099511627776) (hB : B ≤ w.heap.size) :
    Calls Try.prog 9 #[v, .int .u64 (x : Int), .int .i64 n] w fun e w' => ∃ v', e = .returned v' ∧ Bl w' B v' (L ++ Num.bitsL (wide n) x) ∧ Tch w w' w.heap.size v v' := by
  obtain ⟨i0, hi, hz0, hz1, hz2⟩ := info_parts Try.info5
  have hw := wide_le n
  go_enter Try.func9, Try.ntmps9
  go_wp2_with (first | (go_at_call 17; refine (refWidth_any _ _).mono ?_; rintro e w' ⟨rfl, rfl⟩))
  go_loopg [0, 7] (wide n) (fun r a i wr => ∃ k : Nat, Hid (k + r = wide n) ∧ r ≤ 64 ∧ k ≤ 64 ∧ i = .int .i64 ((r : Int) - 1) ∧ Bl wr B a (L ++ Num.bitsL k (x / 2 ^ r)) ∧ Tch w wr w.heap.size v a)
  case atStart => exact ⟨0, Nat.zero_add _, by omega, by omega, by go_num, by rw [Num.bitsL, List.append_nil]; exact h, Tch.refl _ _ _⟩
  case round =>
    obtain ⟨k, hE, hr, hk, rfl, hL, hT⟩ := hrel
    have hlen : (L ++ Num.bitsL k (x / 2 ^ gk)).length = L.length + k := by rw [List.length_append, Num.bitsL_length]
    by_cases hlt : 0 < gk
    · obtain ⟨r, rfl⟩ : ∃ r, gk = r + 1 := ⟨gk - 1, by omega⟩
      obtain ⟨b, hb⟩ : ∃ b, b = x / 2 ^ r % 2 := ⟨_, rfl⟩
      have HB := Lib.hid hb
      have hb1 : b ≤ 1 := by omega
      clear hb hw
      have hand : bits BinOp.and IntKind.u64 ((x : Int) / 2 ^ r) 1 = (b : Int) := by
        rw [show ((x : Int) / 2 ^ r) = ((x / 2 ^ r : Nat) : Int) from by simp, show (1 : Int) = ((1 : Nat) : Int) from rfl, u64_and_nat _ _ (Nat.lt_of_le_of_lt (Nat.div_le_self _ _) hx) (by decide), nat_mask1, HB.out]
      have HX := Lib.hid hx
      clear hx
      go_wp2_with (at_builtin; refine wpList_append_own_at _ rfl (.tmp 16) (.tmp 23) 24 rfl B 5 i0 (.int .u8 0) 1 1 Try.underlying24 hi hz0 hz1 hz2 rfl (by decide) _ _ _ rfl (hL.own.alloc _) ⟨wr.heap.size, 0, none⟩ 1 1 [.int .u8 (b : Int)] rfl rfl (cell_one_new _ _ _) (by intro u hu; simp at hu; subst hu; rfl) ?c3 ?c4 ?c5 ?_)
      case c3 => unfold maxLen; omega
      case c4 => omega
      case c5 => have := hT.size; simp; omega
      intro v' w1 hown hgrow _ hat
      have hT1 : Tch w w1 w.heap.size v v' := (hT.alloc _).grown hgrow (by simpa using hat)
      clear hand
      go_wp2
      go_roundg r
      case measure => omega
      case rel =>
        have hbits : Num.bitsL (k + 1) (x / 2 ^ r) = Num.bitsL k (x / 2 ^ (r + 1)) ++ [b] := by
          rw [Num.bitsL, Nat.div_div_eq_div_mul, ← Nat.pow_succ, HB.out]
        refine ⟨k + 1, by have := hE.out; show _ = _; omega, by omega, by have := hE.out; have := wide_le n; omega, by go_num, ⟨?_, ?_⟩, hT1⟩
        · rw [hbits, ← List.append_assoc, u8s_append, List.length_append, hlen]
          exact hown
        · rw [hbits, ← List.append_assoc]
          exact Num.isBits_append _ _ hL.bits (by intro c hc; simp at hc; subst hc; exact hb1)
    · go_wp2
      obtain rfl : gk = 0 := by omega
      go_ret
      obtain rfl : k = wide n := by have := hE.out; omega
      rw [Nat.pow_zero, Nat.div_one] at hL
      exact ⟨_, rfl, hL, hT⟩

/-- how a list of bits is read -/
theorem Bl.reads {w : World} {B : Nat} {v : Value} {L : List Nat} (h : Bl w B v L) :
    ∃ ao cap, v = .slice ao L.length cap ∧ ∀ k, k < L.length → ∃ g, ao = some ⟨g, 0, none⟩ ∧ g < w.heap.size ∧ w.cell? ⟨g, k, none⟩ = some (.int .u8 ((L.getD k 0 : Nat) : Int)) := by
  rcases h.own.2 with ⟨hv, h0⟩ | ⟨g, cap, cur, hv, _, hh, _⟩
  · exact ⟨none, 0, by rw [hv, h0], fun k hk => by omega⟩
  · refine ⟨some ⟨g, 0, none⟩, cap, hv, fun k hk => ⟨g, rfl, lt_of_block hh, ?_⟩⟩
    have ho := h.own
    rw [hv] at ho
    rw [ho.cellAt k (by omega)]
    simp [u8s, List.getD, hk]

theorem refBytes_any {B : Nat} {v : Value} {L : List Nat} (w : World) (h : Bl w B v L) (hc : L.length ≤ 1099511627776) :
    Calls Try.prog 12 #[v] w fun e w' => e = .returned (.string (strN (Num.packB (Num.seg L 0 L.length) L.length))) ∧ Below w.heap.size w w' := by
  obtain ⟨i0, hi, hz0, hz1, hz2⟩ := info_parts Try.info5
  obtain ⟨ao, cap, rfl, hR⟩ := h.reads
  have hbit := h.bits
  clear h
  obtain ⟨n, hn⟩ : ∃ n, n = L.length := ⟨_, rfl⟩
  rw [← hn] at hR hc ⊢
  have HN := Lib.hid hn
  have HR := Lib.hid hR
  have HI := Lib.hid hbit
  clear hn hR hbit
  go_enter Try.func12, Try.ntmps12
  go_wp2_with fail
  go_loopg [3, 4] (Num.nb n) (fun r o i wr => ∃ j : Nat, Hid (j + r = Num.nb n) ∧ j ≤ Num.nb n ∧ i = .int .i64 (((8 * j : Nat)) : Int) ∧ wr.ownsRow w.heap.size 5 1 o j (u8s (Num.bytesL L j)) ∧ Below w.heap.size w wr)
  case atStart => exact ⟨0, Nat.zero_add _, Nat.zero_le _, rfl, World.ownsRow_made w #[] 0 (Nat.le_refl _) (by decide) rfl, (Below.refl _ _).alloc (Nat.le_refl _) _⟩
  case round =>
    obtain ⟨j, hE, hj, rfl, hO, hB⟩ := hrel
    have hsz := hB.size
    by_cases hlt : 8 * j < n
    · obtain ⟨wo, hwo⟩ : ∃ wo : World, wo = wr := ⟨_, rfl⟩
      subst hwo
      have hjn : j < Num.nb n := by unfold Num.nb; omega
      clear hj
      go_wp2_with fail
      go_loopg [5, 6] 8 (fun r b i wx => ∃ t y : Nat, Hid (t + r = 8) ∧ t ≤ 8 ∧ i = .int .i64 ((8 * j + t : Nat) : Int) ∧ b = .int .u8 (y : Int) ∧ Hid (y = Num.seg L (8 * j) t) ∧ wx = wo)
      case atStart => exact ⟨0, 0, rfl, by omega, by go_num, rfl, rfl, rfl⟩
      case round =>
        obtain ⟨t, y, hEt, ht, rfl, rfl, hy, rfl⟩ := hrel
        by_cases hlk : t < 8
        · have hy1 : y ≤ 127 := by
            have h1 := Num.seg_lt L HI.out (8 * j) t
            have h2 : (2 : Nat) ^ t ≤ 2 ^ 7 := Nat.pow_le_pow_right (by decide) (by omega)
            rw [hy.out]
            omega
          by_cases hin : 8 * j + t < n
          · obtain ⟨g, rfl, hg, q⟩ := HR.out (8 * j + t) hin
            have g0 := (hB.cell (p := ⟨g, 8 * j + t, none⟩) hg).trans q
            have hb1 := HI.out (8 * j + t)
            obtain ⟨b, hb⟩ : ∃ b, b = L.getD (8 * j + t) 0 := ⟨_, rfl⟩
            rw [← hb] at g0 hb1
            have HB := Lib.hid hb
            clear hb q
            go_wp2_with fail
            go_roundg (8 - (t + 1))
            case measure => have := hEt.out; omega
            case rel => exact ⟨t + 1, y * 2 + b, by show _ = _; omega, by omega, by go_num, by go_num, by show _ = _; rw [Num.seg, hy.out, HB.out], rfl⟩
          · go_wp2_with fail
            go_roundg (8 - (t + 1))
            case measure => have := hEt.out; omega
            case rel =>
              have h0 : L.getD (8 * j + t) 0 = 0 := by
                simp only [List.getD]
                rw [List.getElem?_eq_none (by have := HN.out; omega)]
                rfl
              exact ⟨t + 1, y * 2, by show _ = _; omega, by omega, by go_num, by go_num, by show _ = _; rw [Num.seg, hy.out, h0]; rfl, rfl⟩
        · obtain rfl : t = 8 := by omega
          go_wp2_with (at_builtin; refine wpList_append_own _ rfl (.tmp 33) (.tmp 35) 24 rfl w.heap.size 5 i0 (.int .u8 0) 1 1 Try.underlying24 hi hz0 hz1 hz2 rfl (by decide) _ _ _ rfl (hO.alloc _) ⟨wr.heap.size, 0, none⟩ 1 1 [.int .u8 (y : Int)] rfl rfl (cell_one_new _ _ _) (by intro u hu; simp at hu; subst hu; rfl) ?c3 ?c4 ?c5 ?_)
          case c3 => unfold maxLen; unfold Num.nb at hjn; omega
          case c4 => unfold Num.nb at hjn; omega
          case c5 => simp; omega
          intro v' w1 hO1 hgrow _
          have hB1 : Below w.heap.size w w1 := (hB.alloc hsz _).grown hgrow (by simp; omega) (fun k hk => (hO.lt k hk).1)
          go_wp2
          go_roundg (Num.nb n - (j + 1))
          case measure => have := hE.out; omega
          case rel =>
            refine ⟨j + 1, by show _ = _; omega, by omega, by go_num, ?_, hB1⟩
            rw [Num.bytesL_succ L HI.out j, u8s_append, ← hy.out]
            exact hO1
    · have hjn : j = Num.nb n := by unfold Num.nb at hj ⊢; omega
      subst hjn
      have hcv := conv_own hO
      have hfin : Num.bytesL L (Num.nb n) = Num.packB (Num.seg L 0 n) n := by rw [HN.out]; exact Num.bytesL_all L
      rw [hfin] at hcv
      clear hfin
      go_wp2
      go_ret
      exact ⟨rfl, hB⟩
end Go.Proofs.Ytmenhgdedllioaa.Bits
