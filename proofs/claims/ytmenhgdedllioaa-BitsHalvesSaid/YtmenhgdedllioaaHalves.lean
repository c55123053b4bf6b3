/-
  The law BitsHalves: its walk. Two writers, used in turns. Own text.
-/
import Derived.Test.YtmenhgdedllioaaBytes
namespace Go.Proofs.Ytmenhgdedllioaa.Bits
open Go.RowKit Go

theorem wide_nat (n : Nat) (h : n ≤ 64) : wide (n : Int) = n := by unfold wide; omega

/-- two writers, at blocks B + 2 and B + 3; two boxed fields ahead of them -/
structure Two (w W : World) (B : Nat) (x1 n1 x2 n2 : Int) (va vb : Value) (Na ca Nb cb : Nat) : Prop where
  a : Wr W B (B + 2) va Na ca
  b : Wr W B (B + 3) vb Nb cb
  apart : ∀ k, va.ownBlock = some k → vb.ownBlock ≠ some k
  one : W.heap[B]? = some (.cells #[.int .u64 x1, .int .i64 n1] 29 (0, 0))
  two : W.heap[B + 1]? = some (.cells #[.int .u64 x2, .int .i64 n2] 29 (0, 0))
  below : Below B w W

section
variable {w W W' : World} {B : Nat} {x1 n1 x2 n2 : Int} {va vb v' : Value} {Na ca Nb cb N c : Nat}

theorem Two.putA (h : Two w W B x1 n1 x2 n2 va vb Na ca Nb cb) (hr : Wr W' B (B + 2) v' N c) (ht : Tch W W' (B + 2) va v') : Two w W' B x1 n1 x2 n2 v' vb N c Nb cb where
  a := hr
  b := ⟨by rw [ht.block _ h.b.lt (by omega) (own_ne h.a.own h.b.blk)]; exact h.b.blk,
    own_same h.b.own fun k hk => ht.block k (h.b.own.lt k hk).2 (fun e => own_ne h.b.own h.a.blk (hne := by decide) (by rw [hk, e])) (fun e => h.apart k e hk)⟩
  apart := fun k hk he => by
    rcases ht.row with e | e
    · exact h.apart k (by rw [← e]; exact hk) he
    · have := e k hk
      have := (h.b.own.lt k he).2
      omega
  one := by rw [ht.block _ (lt_of_block h.one) (by omega) (own_ne h.a.own h.one)]; exact h.one
  two := by rw [ht.block _ (lt_of_block h.two) (by omega) (own_ne h.a.own h.two)]; exact h.two
  below := ht.below (by have := lt_of_block h.one; omega) (by omega) h.a.row h.below

theorem Two.putB (h : Two w W B x1 n1 x2 n2 va vb Na ca Nb cb) (hr : Wr W' B (B + 3) v' N c) (ht : Tch W W' (B + 3) vb v') : Two w W' B x1 n1 x2 n2 va v' Na ca N c where
  b := hr
  a := ⟨by rw [ht.block _ h.a.lt (by omega) (own_ne h.b.own h.a.blk)]; exact h.a.blk,
    own_same h.a.own fun k hk => ht.block k (h.a.own.lt k hk).2 (fun e => own_ne h.a.own h.b.blk (hne := by decide) (by rw [hk, e])) (fun e => h.apart k hk e)⟩
  apart := fun k hk he => by
    rcases ht.row with e | e
    · exact h.apart k hk (by rw [← e]; exact he)
    · have := e k he
      have := (h.a.own.lt k hk).2
      omega
  one := by rw [ht.block _ (lt_of_block h.one) (by omega) (own_ne h.b.own h.one)]; exact h.one
  two := by rw [ht.block _ (lt_of_block h.two) (by omega) (own_ne h.b.own h.two)]; exact h.two
  below := ht.below (by have := lt_of_block h.one; omega) (by omega) h.b.row h.below

theorem Two.size (h : Two w W B x1 n1 x2 n2 va vb Na ca Nb cb) : B ≤ W.heap.size := by have := lt_of_block h.one; omega
theorem Two.c0 (h : Two w W B x1 n1 x2 n2 va vb Na ca Nb cb) : W.cell? ⟨B, 0, none⟩ = some (.int .u64 x1) := by simp [World.cell?, h.one]
theorem Two.c1 (h : Two w W B x1 n1 x2 n2 va vb Na ca Nb cb) : W.cell? ⟨B, 1, none⟩ = some (.int .i64 n1) := by simp [World.cell?, h.one]
theorem Two.d0 (h : Two w W B x1 n1 x2 n2 va vb Na ca Nb cb) : W.cell? ⟨B + 1, 0, none⟩ = some (.int .u64 x2) := by simp [World.cell?, h.two]
theorem Two.d1 (h : Two w W B x1 n1 x2 n2 va vb Na ca Nb cb) : W.cell? ⟨B + 1, 1, none⟩ = some (.int .i64 n2) := by simp [World.cell?, h.two]
end

theorem heap_new {w : World} {o : Obj} {i : Nat} (h : i = w.heap.size) : (w.alloc o).heap[i]? = some o := by subst h; exact heap_alloc_new w o

theorem two_new (w : World) (x1 n1 x2 n2 : Int) :
    Two w ((((w.alloc (.cells #[.int .u64 x1, .int .i64 n1] 29)).alloc (.cells #[.int .u64 x2, .int .i64 n2] 29)).alloc (.cells #[.slice none 0 0, .int .i64 0] 26)).alloc (.cells #[.slice none 0 0, .int .i64 0] 26)) w.heap.size x1 n1 x2 n2 (.slice none 0 0) (.slice none 0 0) 0 0 0 0 where
  a := ⟨by rw [Below.heap_alloc _ _ _ (by simp)]; exact heap_new (by simp), World.ownsRow_nil _ _ _ _⟩
  b := ⟨heap_new (by simp), World.ownsRow_nil _ _ _ _⟩
  apart := fun k hk => by simp [Value.ownBlock] at hk
  one := by rw [Below.heap_alloc _ _ _ (by simp; omega), Below.heap_alloc _ _ _ (by simp; omega), Below.heap_alloc _ _ _ (by simp)]; exact heap_new rfl
  two := by rw [Below.heap_alloc _ _ _ (by simp), Below.heap_alloc _ _ _ (by simp)]; exact heap_new (by simp)
  below := ((((Below.refl _ _).alloc (Nat.le_refl _) _).alloc (by simp) _).alloc (by simp; omega) _).alloc (by simp; omega) _

set_option maxHeartbeats 400000 in
set_option maxRecDepth 100000 in
theorem halves_walk (x1 n1 x2 n2 m0 : Int) (w : World) (h1 : 0 ≤ x1) (h2 : x1 < 18446744073709551616) (h3 : 0 ≤ x2) (h4 : x2 < 18446744073709551616) :
    Calls Try.prog 6 #[.agg #[.int .u64 x1, .int .i64 n1], .agg #[.int .u64 x2, .int .i64 n2], .int .i64 m0] w fun e w' => e = .returned (.bool true) ∧ Below w.heap.size w w' := by
  obtain ⟨y, rfl⟩ := Int.eq_ofNat_of_zero_le h3
  have hn1 := wide_le n1
  have H2 := Lib.hid h2
  have H4 := Lib.hid h4
  clear h2 h4
  go_enter Try.func6, Try.ntmps6
  go_upto_region 1 with (fail)
  go_cut [7] (fun z wx => ∃ n : Nat, z = .int .i64 (n : Int) ∧ n ≤ 64 ∧ wx = (w.alloc (.cells #[.int .u64 x1, .int .i64 n1] 29)).alloc (.cells #[.int .u64 (y : Int), .int .i64 n2] 29))
  case first =>
    clear hn1 h1
    rcases (show n2 < 0 ∨ (0 ≤ n2 ∧ n2 ≤ 64) ∨ 64 < n2 from by omega) with q | ⟨q, q'⟩ | q
    · go_wp2
      go_meet
      exact ⟨0, rfl, by omega, rfl⟩
    · obtain ⟨k, rfl⟩ := Int.eq_ofNat_of_zero_le q
      clear q
      by_cases q0 : 0 < k
      · go_wp2
        go_meet
        exact ⟨k, rfl, by omega, rfl⟩
      · obtain rfl : k = 0 := by omega
        go_wp2
        go_meet
        exact ⟨0, rfl, by omega, rfl⟩
    · go_wp2
      go_meet
      exact ⟨64, rfl, by omega, rfl⟩
  case rest =>
    obtain ⟨n, rfl, hn, rfl⟩ := hcut
    go_upto_region 2 with (fail)
    go_cut [2] (fun z wx => ∃ m : Nat, z = .int .i64 (m : Int) ∧ m ≤ n ∧ wx = (w.alloc (.cells #[.int .u64 x1, .int .i64 n1] 29)).alloc (.cells #[.int .u64 (y : Int), .int .i64 n2] 29))
    case first =>
      clear hn1 h1 h3
      rcases (show m0 < 0 ∨ 0 ≤ m0 from by omega) with q | q
      · go_wp2
        go_meet
        exact ⟨0, rfl, by omega, rfl⟩
      · obtain ⟨k, rfl⟩ := Int.eq_ofNat_of_zero_le q
        clear q
        by_cases q1 : k < n
        · by_cases q0 : 0 < k
          · go_wp2
            go_meet
            exact ⟨k, rfl, by omega, rfl⟩
          · obtain rfl : k = 0 := by omega
            go_wp2
            go_meet
            exact ⟨0, rfl, by omega, rfl⟩
        · rcases (show k = n ∨ n < k from by omega) with rfl | q2
          · by_cases q0 : 0 < k
            · go_wp2
              go_meet
              exact ⟨k, rfl, by omega, rfl⟩
            · obtain rfl : k = 0 := by omega
              go_wp2
              go_meet
              exact ⟨0, rfl, by omega, rfl⟩
          · by_cases q0 : 0 < n
            · go_wp2
              go_meet
              exact ⟨n, rfl, by omega, rfl⟩
            · obtain rfl : n = 0 := by omega
              go_wp2
              go_meet
              exact ⟨0, rfl, by omega, rfl⟩
    case rest =>
      obtain ⟨m, rfl, hm, rfl⟩ := hcut
      go_upto_region 4 with (fail)
      have hT := two_new w x1 n1 (y : Int) n2
      generalize ((((w.alloc (.cells #[.int .u64 x1, .int .i64 n1] 29)).alloc (.cells #[.int .u64 (y : Int), .int .i64 n2] 29)).alloc (.cells #[.slice none 0 0, .int .i64 0] 26)).alloc (.cells #[.slice none 0 0, .int .i64 0] 26)) = W0 at *
      have g0 := hT.c0
      have g1 := hT.c1
      go_wp2_with fail
      refine (put_int x1 n1 _ hT.a h1 H2.out (by omega) hT.size).mono ?_
      rintro e W1 ⟨rfl, va1, hr1, ht1⟩
      have hT1 := hT.putA hr1 ht1
      have HM := Lib.hid (And.intro hm hn)
      clear hT hr1 ht1 g0 g1 hm hn hn1
      have g0 := hT1.c0
      have g1 := hT1.c1
      go_wp2_with fail
      refine (put_int x1 n1 _ hT1.b h1 H2.out (by omega) hT1.size).mono ?_
      rintro e W2 ⟨rfl, vb1, hr1, ht1⟩
      have hT2 := hT1.putB hr1 ht1
      clear hT1 hr1 ht1 g0 g1
      have g0 := hT2.d0
      go_wp2_with fail
      refine (put_int (y : Int) (n : Int) _ hT2.a h3 H4.out (by have := wide_le n1; omega) hT2.size).mono ?_
      rintro e W3 ⟨rfl, va2, hr1, ht1⟩
      have hT3 := hT2.putA hr1 ht1
      clear hT2 hr1 ht1 g0
      have g0 := hT3.d0
      have hmn := HM.out
      go_wp2_with fail
      rw [show ((y : Int) / 2 ^ (n - m)) = ((y / 2 ^ (n - m) : Nat) : Int) from by simp]
      refine (put_any (y / 2 ^ (n - m)) (m : Int) _ hT3.b (Nat.lt_of_le_of_lt (Nat.div_le_self _ _) (by have := H4.out; omega)) (by have := wide_le n1; omega) hT3.size).mono ?_
      rintro e W4 ⟨rfl, vb2, hr1, ht1⟩
      have hT4 := hT3.putB hr1 ht1
      clear hT3 hr1 ht1 g0
      have g0 := hT4.d0
      go_wp2_with fail
      refine (put_int (y : Int) ((n : Int) - (m : Int)) _ hT4.b h3 H4.out (by have := wide_le n1; have := wide_le m; omega) hT4.size).mono ?_
      rintro e W5 ⟨rfl, vb3, hr1, ht1⟩
      have hT5 := hT4.putB hr1 ht1
      clear hT4 hr1 ht1 g0
      rw [show ((n : Int) - (m : Int)) = ((n - m : Nat) : Int) from by omega, wide_nat n (by omega), wide_nat m (by omega), wide_nat (n - m) (by omega), Int.toNat_natCast, Num.putN_split, show m + (n - m) = n from by omega,
        show 0 + wide n1 + m + (n - m) = 0 + wide n1 + n from by omega] at hT5
      have hA := hT5.a
      have hB := hT5.b
      have hL := hT5.below
      have hS := hT5.size
      clear hT5
      generalize Num.putN (Num.putN 0 x1.toNat (wide n1)) y n = N at hA hB
      generalize 0 + wide n1 + n = c at hA hB
      have HA := Lib.hid hA
      have HB := Lib.hid hB
      clear hA hB hmn
      go_wp2_with fail
      refine (wakes_any _).mono ?_
      rintro e W6 ⟨rfl, hb6⟩
      have hbA := bytes_any W6 (HA.out.later hb6)
      have hbB := bytes_any W6 (HB.out.later hb6)
      have hlA := len_any W6 (HA.out.later hb6)
      have hlB := len_any W6 (HB.out.later hb6)
      generalize strN (Num.packB N c) = S at hbA hbB
      have KA := Lib.hid hbA
      have KB := Lib.hid hbB
      have LA := Lib.hid hlA
      have LB := Lib.hid hlB
      clear hbA hbB hlA hlB HA HB
      go_wp2_with fail
      refine KA.out.mono ?_
      rintro e W7 ⟨rfl, rfl⟩
      go_wp2_with fail
      refine KB.out.mono ?_
      rintro e W7 ⟨rfl, rfl⟩
      go_wp2_with fail
      refine LA.out.mono ?_
      rintro e W7 ⟨rfl, rfl⟩
      go_wp2_with fail
      refine LB.out.mono ?_
      rintro e W7 ⟨rfl, rfl⟩
      go_wp2_with fail
      go_ret
      exact ⟨rfl, hL.trans (hb6.mono hS)⟩
end Go.Proofs.Ytmenhgdedllioaa.Bits
