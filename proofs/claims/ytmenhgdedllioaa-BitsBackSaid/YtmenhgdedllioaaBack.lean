/-
  The law BitsBack: its walk. Own text.
-/
import Derived.Test.YtmenhgdedllioaaSeq
import Derived.Test.YtmenhgdedllioaaFields
namespace Go.Proofs.Ytmenhgdedllioaa.Bits
open Go.RowKit Go

set_option maxHeartbeats 800000 in
set_option maxRecDepth 100000 in
theorem back_walk (ao : Option Addr) (len cap : Nat) (V N : Nat → Int) (w : World) (hl : len ≤ 8796093022207) (hF : FieldsAt w ao len V N) :
    Calls Try.prog 5 #[.slice ao len cap] w fun e w' => e = .returned (.bool true) ∧ Below w.heap.size w w' := by
  go_enter Try.func5, Try.ntmps5
  go_wp2_with fail
  go_loopg [19] len (fun r i wr => ∃ (k : Nat) (v : Value), Hid (k + r = len) ∧ k ≤ len ∧ i = .int .i64 (k : Int) ∧ Wr wr w.heap.size w.heap.size v (numOf V N k) (cntOf N k) ∧ Below w.heap.size w wr)
  case atStart => exact ⟨0, _, Nat.zero_add _, Nat.zero_le _, rfl, Wr.new w _, (Below.refl _ _).alloc (Nat.le_refl _) _⟩
  case round =>
    obtain ⟨k, v, hE, hk, rfl, hr, hB⟩ := hrel
    have hsz := hB.size
    by_cases hlt : k < len
    · obtain ⟨b, off, rfl, hb, q0, q1, v0, v1⟩ := hF k hlt
      have g0 := (hB.cell (p := ⟨b, off + k * 2, none⟩) hb).trans q0
      have g1 := (hB.cell (p := ⟨b, off + k * 2 + 1, none⟩) hb).trans q1
      have hput : ∀ (W : World) (_ : Wr W w.heap.size w.heap.size v (numOf V N k) (cntOf N k)) (_ : w.heap.size ≤ W.heap.size),
          Calls Try.prog 8 #[.pointer (some ⟨w.heap.size, 0, none⟩), .int .u64 (V k), .int .i64 (N k)] W fun e w' => e = .returned (.tuple #[]) ∧ ∃ v', Wr w' w.heap.size w.heap.size v' (numOf V N (k + 1)) (cntOf N (k + 1)) ∧ Tch W w' w.heap.size v v' :=
        fun W h hs => put_int (V k) (N k) W h v0 v1 (by have := cntOf_le N k; omega) hs
      have HP := Lib.hid hput
      clear hput v0 v1 q0 q1
      generalize V k = x at g0 HP
      generalize N k = n at g1 HP
      go_wp2_with fail
      refine (HP.out _ (hr.later (below_alloc _ _)) (by simp; omega)).mono ?_
      rintro e w1 ⟨rfl, v1, hr1, ht1⟩
      have hB1 : Below w.heap.size w w1 := ht1.below (B := w.heap.size) (by simp; omega) (Nat.le_refl _) hr.row (hB.alloc hsz _)
      clear hr ht1 hB
      go_wp2_with fail
      go_roundg (len - (k + 1))
      case measure => have := hE.out; omega
      case rel => exact ⟨k + 1, v1, by show _ = _; omega, by omega, by go_num, hr1, hB1⟩
    · obtain rfl : k = len := by omega
      have hbytes : Calls Try.prog 11 #[.pointer (some ⟨w.heap.size, 0, none⟩)] wr fun e w' => e = .returned (.string (textOf V N k)) ∧ wr = w' := bytes_any wr hr
      have hroom := textOf_room V N k
      have hcl := cntOf_le N k
      obtain ⟨S, hS⟩ : ∃ S, S = textOf V N k := ⟨_, rfl⟩
      rw [← hS] at hroom hbytes
      have HS := Lib.hid hS
      have HY := Lib.hid hbytes
      have HF := Lib.hid hF
      clear hbytes hF hr hS
      go_wp2_with fail
      refine HY.out.mono ?_
      rintro e w1 ⟨rfl, rfl⟩
      go_wp2_with fail
      refine (open_any S wr).mono ?_
      rintro e w2 ⟨rfl, rfl⟩
      have hrd : Rd (wr.alloc (.cells #[.string S, .int .i64 0] 50)) wr.heap.size S 0 := ⟨heap_alloc_new _ _⟩
      have hB2 := hB.alloc hsz (.cells #[.string S, .int .i64 0] 50)
      have hsz2 : wr.heap.size < (wr.alloc (.cells #[.string S, .int .i64 0] 50)).heap.size := by simp
      generalize (wr.alloc (.cells #[.string S, .int .i64 0] 50)) = W2 at *
      go_wp2_with fail
      refine (wakes_any _).mono ?_
      rintro e W3 ⟨rfl, hb3⟩
      have hrd3 := hrd.later hb3
      have hB3 := hB2.trans (hb3.mono (by omega))
      have hsz3 := hb3.size
      clear hb3 hrd hB2 HY hB
      go_wp2_with fail
      obtain ⟨wo, hwo⟩ : ∃ wo : World, wo = wr := ⟨_, rfl⟩
      subst hwo
      go_loopg [41] k (fun r i wx => ∃ j : Nat, Hid (j + r = k) ∧ j ≤ k ∧ i = .int .i64 (j : Int) ∧ Rd wx wo.heap.size S (cntOf N j) ∧ Below w.heap.size w wx)
      case atStart => exact ⟨0, Nat.zero_add _, Nat.zero_le _, rfl, hrd3, hB3⟩
      case round =>
        obtain ⟨j, hEj, hj, rfl, hrj, hBj⟩ := hrel
        have hszj := hBj.size
        clear hrd3 hB3 hsz2 hsz3
        by_cases hlj : j < k
        · obtain ⟨b, off, rfl, hb, q0, q1, v0, v1⟩ := HF.out j hlj
          have g0 := (hBj.cell (p := ⟨b, off + j * 2, none⟩) hb).trans q0
          have g1 := (hBj.cell (p := ⟨b, off + j * 2 + 1, none⟩) hb).trans q1
          have htake : ∀ (W : World) (_ : Rd W wo.heap.size S (cntOf N j)),
              Calls Try.prog 16 #[.pointer (some ⟨wo.heap.size, 0, none⟩), .int .i64 (N j)] W fun e w' => e = .returned (.tuple #[.int .u64 (((V j).toNat % 2 ^ wide (N j) : Nat) : Int), .bool true]) ∧ Rd w' wo.heap.size S (cntOf N (j + 1)) ∧ W.grownBy w' (some wo.heap.size) := by
            intro W h
            have hm := cntOf_mono N (j + 1) k (by omega)
            have hc : cntOf N (j + 1) = cntOf N j + wide (N j) := rfl
            rw [← cut_field V N k j hlj, ← HS.out, hc]
            exact take_any (N j) W h (by omega) (by omega)
          have HT := Lib.hid htake
          clear htake q0 q1
          obtain ⟨x, hx⟩ := Int.eq_ofNat_of_zero_le v0
          rw [hx] at g0 HT
          have hxl : x < 18446744073709551616 := by omega
          have HX := Lib.hid hxl
          clear v0 v1 hx hxl
          generalize N j = n at g1 HT
          go_wp2_with fail
          rw [Int.toNat_natCast] at HT
          refine (HT.out _ (hrj.later (below_alloc _ _))).mono ?_
          rintro e W4 ⟨rfl, hr4, hg4⟩
          have hlt4 := hrj.lt
          have c0 : W4.cell? ⟨wr.heap.size, 0, none⟩ = some (.int .u64 (x : Int)) := hg4.cell (World.cell?_alloc_new _ _ _ _) (by simp; omega)
          have c1 : W4.cell? ⟨wr.heap.size, 1, none⟩ = some (.int .i64 n) := hg4.cell (World.cell?_alloc_new _ _ _ _) (by simp; omega)
          have hB4 : Below w.heap.size w W4 := (hBj.alloc hszj _).grown hg4 (by simp; omega) (fun k hk => by injection hk with hk; omega)
          clear hg4 g0 g1 hrj hBj HT
          go_upto_if 56 with (fail)
          go_cut [11] (fun z wx => z = .int .u64 ((x % 2 ^ wide n : Nat) : Int) ∧ wx = W4)
          case first =>
            rcases (show n < 0 ∨ (0 ≤ n ∧ n < 64) ∨ 64 ≤ n from by omega) with q | ⟨q, q'⟩ | q
            · go_wp2
              go_meet
              refine ⟨val_int ?_, rfl⟩
              rw [wide_neg n q]
              exact and_mask_u64 x 0 HX.out (by omega)
            · obtain ⟨m, rfl⟩ := Int.eq_ofNat_of_zero_le q
              clear q
              by_cases q0 : 0 < m
              · go_wp2
                go_meet
                refine ⟨val_int ?_, rfl⟩
                rw [wide_small m (by omega)]
                exact and_mask_u64 x m HX.out (by omega)
              · obtain rfl : m = 0 := by omega
                go_wp2
                go_meet
                refine ⟨val_int ?_, rfl⟩
                rw [wide_small 0 (by omega)]
                exact and_mask_u64 x 0 HX.out (by omega)
            · go_wp2
              go_meet
              refine ⟨val_int ?_, rfl⟩
              rw [wide_big n q, Nat.mod_eq_of_lt HX.out]
          case rest =>
            obtain ⟨rfl, rfl⟩ := hcut
            go_wp2_with fail
            go_roundg (k - (j + 1))
            case measure => have := hEj.out; omega
            case rel => exact ⟨j + 1, by show _ = _; omega, by omega, by go_num, hr4, hB4⟩
        · obtain rfl : j = k := by omega
          have hleft := left_any wr hrj (by omega) (by omega)
          have HL := Lib.hid hleft
          clear hleft HF
          go_wp2_with fail
          refine HL.out.mono ?_
          rintro e W4 ⟨rfl, m4, rfl⟩
          obtain ⟨L, hL⟩ : ∃ L : Nat, L = 8 * S.size - cntOf N j := ⟨_, rfl⟩
          have hL8 : L < 8 := by omega
          have hwl : wide (L : Int) = L := by unfold wide; omega
          have htake : Calls Try.prog 16 #[.pointer (some ⟨wo.heap.size, 0, none⟩), .int .i64 (L : Int)] (wr.drewN m4) fun e w' => e = .returned (.tuple #[.int .u64 0, .bool true]) ∧ Rd w' wo.heap.size S (8 * S.size) ∧ (wr.drewN m4).grownBy w' (some wo.heap.size) := by
            have h := take_any (L : Int) (wr.drewN m4) (r := wo.heap.size) (a := cntOf N j) (s := S) ⟨hrj.blk⟩ (by omega) (by omega)
            rw [hwl] at h
            have hz : cut S (cntOf N j) L = 0 := by rw [hL, HS.out]; exact cut_rest V N j
            rw [hz, show cntOf N j + L = 8 * S.size from by omega] at h
            exact h
          rw [← hL]
          have HT := Lib.hid htake
          clear htake hL hwl hlt
          go_wp2_with fail
          refine HT.out.mono ?_
          rintro e W5 ⟨rfl, hr5, hg5⟩
          have hB5 : Below w.heap.size w W5 := (show Below w.heap.size w (wr.drewN m4) from ⟨hBj.os, hBj.tape, hBj.output, hBj.size, hBj.block⟩).grown hg5 (by simpa using hszj) (fun k hk => by injection hk with hk; omega)
          have hleft : Calls Try.prog 19 #[.pointer (some ⟨wo.heap.size, 0, none⟩)] W5 fun e w' => e = .returned (.int .i64 0) ∧ ∃ m, w' = W5.drewN m := by
            have h := left_any W5 hr5 (Nat.le_refl _) (by omega)
            rw [Nat.sub_self] at h
            exact h
          have HM := Lib.hid hleft
          clear hleft hg5 HL HT hr5
          go_wp2_with fail
          refine HM.out.mono ?_
          rintro e W6 ⟨rfl, m6, rfl⟩
          go_wp2_with fail
          go_ret
          exact ⟨rfl, hB5.os, hB5.tape, hB5.output, hB5.size, hB5.block⟩
end Go.Proofs.Ytmenhgdedllioaa.Bits
