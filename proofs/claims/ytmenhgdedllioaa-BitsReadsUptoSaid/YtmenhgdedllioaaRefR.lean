/-
  The document's answer for reading bits: contracts of List and Number. Own text.
-/
import Derived.Test.YtmenhgdedllioaaRef
namespace Go.Proofs.Ytmenhgdedllioaa.Bits
open Go.RowKit Go

/-- the first m bits of a text -/
def bitsS (s : ByteArray) (m : Nat) : List Nat := (List.range m).map fun n => cut s n 1
theorem bitsS_length (s : ByteArray) (m : Nat) : (bitsS s m).length = m := by simp [bitsS]
theorem bitsS_succ (s : ByteArray) (m : Nat) : bitsS s (m + 1) = bitsS s m ++ [cut s m 1] := by simp [bitsS, List.range_succ]
theorem bitsS_get (s : ByteArray) (m n : Nat) (h : n < m) : (bitsS s m).getD n 0 = cut s n 1 := by simp [bitsS, List.getD, h]
theorem bitsS_bits (s : ByteArray) (m : Nat) : Num.IsBits (bitsS s m) := by
  intro k
  rcases Nat.lt_or_ge k m with h | h
  · rw [bitsS_get s m k h]
    have := cut_lt s k 1
    omega
  · simp only [List.getD]
    rw [List.getElem?_eq_none (by rw [bitsS_length]; exact h)]
    simp

theorem bitsS_seg (s : ByteArray) (a k : Nat) (h : a + k ≤ 8 * s.size) : Num.seg (bitsS s (8 * s.size)) a k = cut s a k := by
  induction k with
  | zero => simp [Num.seg, cut, Nat.mod_one]
  | succ k ih =>
    rw [Num.seg, ih (by omega), bitsS_get _ _ _ (by omega)]
    unfold cut
    rw [Num.cut_more, show 8 * s.size - a - (k + 1) + 1 = 8 * s.size - a - k from by omega, show 8 * s.size - (a + k) - 1 = 8 * s.size - a - (k + 1) from by omega]

theorem cut_one (s : ByteArray) (i t : Nat) (ht : t < 8) (hi : i < s.size) : cut s (8 * i + t) 1 = (s[i]'hi).toNat / 2 ^ (7 - t) % 2 := by
  have h := Num.cut_byte (Num.ofB (nums s)) s.size (8 * i + t) 1 (by omega) (by omega)
  unfold cut
  rw [h, show (8 * i + t) / 8 = i from by omega, ← nums_get s i hi, show 8 - (8 * i + t) % 8 - 1 = 7 - t from by omega]

theorem refList_any (s : ByteArray) (w : World) (hs : s.size ≤ 1073741824) :
    Calls Try.prog 15 #[.string s] w fun e w' => ∃ v, e = .returned v ∧ Bl w' w.heap.size v (bitsS s (8 * s.size)) ∧ Below w.heap.size w w' := by
  obtain ⟨i0, hi, hz0, hz1, hz2⟩ := info_parts Try.info5
  go_enter Try.func15, Try.ntmps15
  go_wp2_with fail
  go_loopg [3, 4] s.size (fun r a i wr => ∃ j : Nat, Hid (j + r = s.size) ∧ j ≤ s.size ∧ i = .int .i64 (j : Int) ∧ Bl wr w.heap.size a (bitsS s (8 * j)) ∧ Below w.heap.size w wr)
  case atStart => exact ⟨0, Nat.zero_add _, Nat.zero_le _, rfl, ⟨World.ownsRow_nil _ _ _ _, bitsS_bits _ _⟩, Below.refl _ _⟩
  case round =>
    obtain ⟨j, hE, hj, rfl, hL, hB⟩ := hrel
    by_cases hlt : j < s.size
    · obtain ⟨wo, hwo⟩ : ∃ wo : World, wo = wr := ⟨_, rfl⟩
      subst hwo
      clear hj
      go_wp2_with fail
      go_loopg [3, 5] 8 (fun r a i wx => ∃ t : Nat, Hid (t + r = 8) ∧ t ≤ 8 ∧ r ≤ 8 ∧ i = .int .i64 ((r : Int) - 1) ∧ Bl wx w.heap.size a (bitsS s (8 * j + t)) ∧ Below w.heap.size w wx)
      case atStart => exact ⟨0, rfl, by omega, by omega, by go_num, hL, hB⟩
      case round =>
        obtain ⟨t, hEt, ht, hr8, rfl, hLt, hBt⟩ := hrel
        have hszt := hBt.size
        clear hL hB
        by_cases hlk : 0 < gk
        · obtain ⟨r, rfl⟩ : ∃ r, gk = r + 1 := ⟨gk - 1, by omega⟩
          have hr : r = 7 - t := by have := hEt.out; omega
          have ht7 : t < 8 := by have := hEt.out; omega
          obtain ⟨b, hb⟩ : ∃ b, b = (s[j]'hlt).toNat / 2 ^ r % 2 := ⟨_, rfl⟩
          have hb1 : b ≤ 1 := by omega
          have hcut : cut s (8 * j + t) 1 = b := by rw [hb, hr]; exact cut_one s j t ht7 hlt
          have HC := Lib.hid hcut
          have hand : bits BinOp.and IntKind.u8 (((s[j]'hlt).toNat : Int) / 2 ^ r) 1 = (b : Int) := by
            have h8 := (s[j]'hlt).toNat_lt
            have h9 := Nat.div_le_self (s[j]'hlt).toNat (2 ^ r)
            rw [show (((s[j]'hlt).toNat : Int) / 2 ^ r) = (((s[j]'hlt).toNat / 2 ^ r : Nat) : Int) from by simp, show (1 : Int) = ((1 : Nat) : Int) from rfl, u8_and_nat _ _ (by omega) (by decide), nat_mask1, hb]
          have hlen : (bitsS s (8 * j + t)).length = 8 * j + t := bitsS_length _ _
          have HLen := Lib.hid hlen
          have hown := hLt.own
          rw [hlen] at hown
          have HR := Lib.hid hr
          clear hb hcut hr hlen hLt
          go_wp2_with (at_builtin; refine wpList_append_own _ rfl (.tmp 16) (.tmp 24) 24 rfl w.heap.size 5 i0 (.int .u8 0) 1 1 Try.underlying24 hi hz0 hz1 hz2 rfl (by decide) _ _ _ rfl (hown.alloc _) ⟨wr.heap.size, 0, none⟩ 1 1 [.int .u8 (b : Int)] rfl rfl (cell_one_new _ _ _) (by intro u hu; simp at hu; subst hu; rfl) ?c3 ?c4 ?c5 ?_)
          case c3 => unfold maxLen; omega
          case c4 => omega
          case c5 => simp; omega
          intro v' w1 hO1 hgrow _
          have hB1 : Below w.heap.size w w1 := (hBt.alloc hszt _).grown hgrow (by simp; omega) (fun k hk => (hown.lt k hk).1)
          clear hand
          go_wp2
          go_roundg r
          case measure => omega
          case rel =>
            refine ⟨t + 1, by have := HR.out; show _ = _; omega, by omega, by omega, by go_num, ⟨?_, bitsS_bits _ _⟩, hB1⟩
            rw [bitsS_length, ← Nat.add_assoc, bitsS_succ, u8s_append, HC.out]
            exact hO1
        · obtain rfl : t = 8 := by have := hEt.out; omega
          go_wp2
          go_roundg (s.size - (j + 1))
          case measure => have := hE.out; omega
          case rel => exact ⟨j + 1, by show _ = _; omega, by omega, by go_num, hLt, hBt⟩
    · obtain rfl : j = s.size := by omega
      go_wp2
      go_ret
      exact ⟨_, rfl, hL, hB⟩

theorem refNumber_any {B : Nat} {ao : Option Addr} {cap : Nat} {L : List Nat} (a n : Nat) (w : World) (h : Bl w B (.slice ao L.length cap) L) (ha : a + n ≤ L.length) (hn : n ≤ 64) (hL : L.length ≤ 1099511627776) :
    Calls Try.prog 18 #[.slice ao L.length cap, .int .i64 (a : Int), .int .i64 (n : Int)] w fun e w' => e = .returned (.int .u64 ((Num.seg L a n : Nat) : Int)) ∧ w = w' := by
  obtain ⟨ao', cap', hv, hR⟩ := h.reads
  injection hv with e1 e2 e3
  subst e1 e3
  have hbit := h.bits
  clear h
  obtain ⟨c, hc⟩ : ∃ c, c = L.length := ⟨_, rfl⟩
  rw [← hc] at hR ha hL ⊢
  have HR := Lib.hid hR
  have HI := Lib.hid hbit
  clear hc hR hbit e2
  go_enter Try.func18, Try.ntmps18
  go_wp2_with fail
  go_loopg [7, 8] n (fun r y i wr => ∃ k x : Nat, Hid (k + r = n) ∧ k ≤ n ∧ i = .int .i64 (k : Int) ∧ y = .int .u64 (x : Int) ∧ Hid (x = Num.seg L a k) ∧ wr = w)
  case atStart => exact ⟨0, 0, Nat.zero_add _, Nat.zero_le _, rfl, rfl, rfl, rfl⟩
  case round =>
    obtain ⟨k, x, hE, hk, rfl, rfl, hx, rfl⟩ := hrel
    by_cases hlt : k < n
    · obtain ⟨g, rfl, hg, q⟩ := HR.out (a + k) (by omega)
      have hb1 := HI.out (a + k)
      obtain ⟨b, hb⟩ : ∃ b, b = L.getD (a + k) 0 := ⟨_, rfl⟩
      rw [← hb] at q hb1
      have HB := Lib.hid hb
      have hxl : x < 2 ^ 63 := by
        have h1 := Num.seg_lt L HI.out a k
        have h2 : (2 : Nat) ^ k ≤ 2 ^ 63 := Nat.pow_le_pow_right (by decide) (by omega)
        rw [hx.out]
        omega
      have w1 : IntKind.u64.wrap ((x : Int) * 2) = (x : Int) * 2 := by rw [IntKind.wrap_u64]; omega
      have w2 : IntKind.u64.wrap ((x : Int) * 2 + (b : Int)) = (x : Int) * 2 + (b : Int) := by rw [IntKind.wrap_u64]; omega
      have w3 : IntKind.u64.wrap (b : Int) = (b : Int) := by rw [IntKind.wrap_u64]; omega
      clear hb hxl
      go_wp2_with fail
      go_roundg (n - (k + 1))
      case measure => have := hE.out; omega
      case rel => exact ⟨k + 1, x * 2 + b, by show _ = _; omega, by omega, by go_num, by go_num, by show _ = _; rw [Num.seg, hx.out, HB.out], rfl⟩
    · obtain rfl : k = n := by omega
      go_wp2
      go_ret
      exact ⟨ret_int (by rw [hx.out]), rfl⟩
end Go.Proofs.Ytmenhgdedllioaa.Bits
