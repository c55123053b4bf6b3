/-
  A reader of bits: contracts of Open, Left, Take. Own text.
-/
import Derived.Test.YtmenhgdedllioaaLeaf
import Derived.Deep.QuietTactic
import Derived.BigQuiet
import Derived.IntWalk
import Derived.Deep.LoopGhost
import Derived.Deep.DeepCutAuto
namespace Go.Proofs.Ytmenhgdedllioaa.Bits
open Go.RowKit Go

/-- A READER at block r: its text, how many bits were taken -/
structure Rd (w : World) (r : Nat) (s : ByteArray) (at' : Nat) : Prop where
  blk : w.heap[r]? = some (.cells #[.string s, .int .i64 (at' : Int)] 50 (0, 0))

section
variable {w : World} {r : Nat} {s : ByteArray} {a : Nat}
theorem Rd.lt (h : Rd w r s a) : r < w.heap.size := lt_of_block h.blk
theorem Rd.c0 (h : Rd w r s a) : w.cell? ⟨r, 0, none⟩ = some (.string s) := by simp [World.cell?, h.blk]
theorem Rd.c1 (h : Rd w r s a) : w.cell? ⟨r, 1, none⟩ = some (.int .i64 (a : Int)) := by simp [World.cell?, h.blk]
theorem Rd.f1 (h : Rd w r s a) : w.frozen? ⟨r, 1, none⟩ = false := by simp [World.frozen?, h.blk]
end

theorem open_any (s : ByteArray) (w : World) : Calls Try.prog 14 #[.string s] w fun e w' => e = .returned (.pointer (some ⟨w.heap.size, 0, none⟩)) ∧ w' = w.alloc (.cells #[.string s, .int .i64 0] 50) := by
  go_enter Try.func14, Try.ntmps14
  go_wp2
  go_ret
  exact ⟨rfl, rfl⟩

theorem left_any {r a : Nat} {s : ByteArray} (w : World) (h : Rd w r s a) (h1 : a ≤ 8 * s.size) (h2 : s.size ≤ 140737488351232) :
    Calls Try.prog 19 #[.pointer (some ⟨r, 0, none⟩)] w fun e w' => e = .returned (.int .i64 ((8 * s.size - a : Nat) : Int)) ∧ ∃ m, w' = w.drewN m := by
  have g0 := h.c0
  have g1 := h.c1
  clear h
  go_enter Try.func19, Try.ntmps19
  go_wp2
  go_quiet (fail)
  go_wp2
  go_ret
  exact ⟨ret_int (by omega), _, rfl⟩

/-- the bytes of a text, as numbers -/
def nums (s : ByteArray) : List Nat := s.data.toList.map UInt8.toNat
theorem nums_length (s : ByteArray) : (nums s).length = s.size := by simp [nums]
theorem nums_lt (s : ByteArray) : ∀ x ∈ nums s, x < 256 := by
  intro x hx
  simp only [nums, List.mem_map] at hx
  obtain ⟨b, _, rfl⟩ := hx
  exact b.toNat_lt
theorem nums_get (s : ByteArray) (i : Nat) (h : i < s.size) : (s[i]'h).toNat = Num.ofB (nums s) / 256 ^ (s.size - 1 - i) % 256 := by
  have h1 := Num.ofB_get (nums s) (nums_lt s) i (by rw [nums_length]; exact h)
  rw [nums_length] at h1
  have h2 : (nums s)[i]? = some (s[i]'h).toNat := by
    unfold nums
    rw [List.getElem?_map, List.getElem?_eq_getElem (by simpa using h)]
    rfl
  rw [h2] at h1
  exact Option.some.inj h1

/-- k bits of a text, from bit a on -/
def cut (s : ByteArray) (a k : Nat) : Nat := Num.ofB (nums s) / 2 ^ (8 * s.size - a - k) % 2 ^ k

theorem ret_two {k : IntKind} {a b : Int} {v : Value} (h : a = b) : Ending.returned (.tuple #[.int k a, v]) = .returned (.tuple #[.int k b, v]) := by rw [h]
theorem val_int {k : IntKind} {a b : Int} (h : a = b) : Value.int k a = Value.int k b := by rw [h]

theorem quiet_here {P : Program} {f : FuncId} {args : Array Value} {w : World} {n : Nat} {v : Value}
    (h : Calls P f args (w.drewN n) fun e w' => e = .returned v ∧ w.drewN n = w') : Calls P f args (w.drewN n) fun e w'' => e = .returned v ∧ ∃ m, w'' = w.drewN m :=
  h.mono fun _ _ ⟨he, hm⟩ => ⟨he, n, hm.symm⟩
theorem quiet_there {P : Program} {f : FuncId} {args : Array Value} {w : World} {a n : Nat} {v : Value}
    (h : Calls P f args (w.drewN (a + n)) fun e w' => e = .returned v ∧ w.drewN (a + n) = w') :
    Calls P f args (w.drewN (a + n)) fun e w'' => e = .returned v ∧ ∃ m, w'' = w.drewN (a + m) :=
  h.mono fun _ _ ⟨he, hm⟩ => ⟨he, n, hm.symm⟩

theorem cut_lt (s : ByteArray) (a k : Nat) : cut s a k < 2 ^ k := Nat.mod_lt _ (Num.two_pos k)

theorem cut_step (s : ByteArray) (a k m : Nat) (h : a + (k + m) ≤ 8 * s.size) (hu : (a + k) % 8 + m ≤ 8) (hi : (a + k) / 8 < s.size) :
    cut s a k * 2 ^ m + (s[(a + k) / 8]'hi).toNat / 2 ^ (8 - (a + k) % 8 - m) % 2 ^ m = cut s a (k + m) := by
  rw [nums_get s _ hi, ← Num.cut_byte (Num.ofB (nums s)) s.size (a + k) m hi hu]
  unfold cut
  rw [Num.cut_more, show 8 * s.size - a - (k + m) + m = 8 * s.size - a - k from by omega, show 8 * s.size - (a + k) - m = 8 * s.size - a - (k + m) from by omega]

theorem join_u64 (C Y k m : Nat) (hC : C < 2 ^ k) (hY : Y < 2 ^ m) (hk : k + m ≤ 64) :
    bits BinOp.or IntKind.u64 (IntKind.u64.wrap ((C : Int) * 2 ^ m)) (Y : Int) = ((C * 2 ^ m + Y : Nat) : Int) := by
  have h1 : (C + 1) * 2 ^ m ≤ 2 ^ k * 2 ^ m := Nat.mul_le_mul_right _ hC
  rw [← Nat.pow_add, Nat.add_mul] at h1
  have h2 : (2 : Nat) ^ (k + m) ≤ 2 ^ 64 := Nat.pow_le_pow_right (by decide) hk
  have h3 : C * 2 ^ m ||| Y = C * 2 ^ m + Y := by rw [Nat.mul_comm, ← Nat.two_pow_add_eq_or_of_lt hY]
  have e : IntKind.u64.wrap ((C : Int) * 2 ^ m) = ((C * 2 ^ m : Nat) : Int) := by
    rw [IntKind.wrap_u64]
    have : ((C : Int) * 2 ^ m) = ((C * 2 ^ m : Nat) : Int) := by simp
    rw [this]
    omega
  rw [e, u64_or_nat _ _ (by omega) (by omega), h3]

theorem Rd.step {w : World} {r a : Nat} {s : ByteArray} (h : Rd w r s a) (a' : Nat) : Rd (w.setCell ⟨r, 1, none⟩ (.int .i64 (a' : Int))) r s a' := by
  refine ⟨?_⟩
  have := h.blk
  simp [World.setCell, Array.getElem?_modify, this]

theorem only_setCell {a w : World} {g : Nat} (h : a.grownBy w (some g)) {p : Addr} (hp : p.block = g) (u : Value) : a.grownBy (w.setCell p u) (some g) :=
  ⟨h.os, h.tape, h.output, by simpa [World.setCell] using h.size, fun i hi hne => (Below.heap_setCell w p u i (by
    rintro rfl
    exact hne (by rw [hp]))).trans (h.block i hi hne)⟩
theorem only_drewN {a w : World} {row : Option Nat} (h : a.grownBy w row) (n : Nat) : a.grownBy (w.drewN n) row := ⟨h.os, h.tape, h.output, h.size, h.block⟩

theorem take_any {r a : Nat} {s : ByteArray} (n : Int) (w : World) (h : Rd w r s a) (h1 : a + wide n ≤ 8 * s.size) (h2 : s.size ≤ 140737488351232) :
    Calls Try.prog 16 #[.pointer (some ⟨r, 0, none⟩), .int .i64 n] w fun e w' => e = .returned (.tuple #[.int .u64 (cut s a (wide n) : Int), .bool true]) ∧ Rd w' r s (a + wide n) ∧ w.grownBy w' (some r) := by
  have hw := wide_le n
  have hd0 : decide (8 * s.size - a < wide n) = false := by simp; omega
  go_enter Try.func16, Try.ntmps16
  go_wp2_with (first | (go_at_call 20; refine (bounded_any _ _).mono ?_; rintro e w' ⟨rfl, rfl⟩) | (go_at_call 19; refine (left_any _ h (by omega) h2).mono ?_; rintro e w' ⟨rfl, m, rfl⟩))
  go_loopg [6, 7] (wide n) (fun L l v wr => ∃ A : Nat, Hid (A + L = a + wide n) ∧ a ≤ A ∧ A + L ≤ 8 * s.size ∧ L ≤ 64 ∧ l = .int .i64 (L : Int) ∧ v = .int .u64 (cut s a (A - a) : Int) ∧ Rd wr r s A ∧ w.grownBy wr (some r))
  case atStart => exact ⟨a, rfl, Nat.le_refl _, by omega, by omega, rfl, by simp [cut, Nat.mod_one], ⟨h.blk⟩, ⟨rfl, rfl, rfl, Nat.le_refl _, fun _ _ _ => rfl⟩⟩
  case round =>
    obtain ⟨A, hE, hA1, hA3, hL, rfl, rfl, hr, hg⟩ := hrel
    have g0 := hr.c0
    have g1 := hr.c1
    have gf := hr.f1
    clear h1 hw hd0
    by_cases hlt : 0 < gk
    · go_upto_region 7 with (fail)
      go_cut [9] (fun z wx => ∃ m : Nat, z = .int .i64 (m : Int) ∧ 1 ≤ m ∧ m ≤ gk ∧ A % 8 + m ≤ 8 ∧ wx = wr)
      case first =>
        go_wp2
        · go_meet
          exact ⟨gk, rfl, by omega, by omega, by omega, rfl⟩
        · go_meet
          exact ⟨8 - A % 8, by go_num, by omega, by omega, by omega, rfl⟩
      case rest =>
        obtain ⟨m, rfl, hm1, hm2, hm3, rfl⟩ := hcut
        go_upto_region 8 with (fail)
        have hi : A / 8 < s.size := by omega
        obtain ⟨X, hX⟩ : ∃ X : Nat, X = (s[A / 8]'hi).toNat / 2 ^ (8 - A % 8 - m) := ⟨_, rfl⟩
        have hX1 : X < 18446744073709551616 := by
          have := (s[A / 8]'hi).toNat_lt
          have := Nat.div_le_self (s[A / 8]'hi).toNat (2 ^ (8 - A % 8 - m))
          omega
        have HX : Hid (X = (s[A / 8]'hi).toNat / 2 ^ (8 - A % 8 - m)) := hX
        clear hX
        go_cut [10] (fun z wx => z = .int .u64 (X : Int) ∧ ∃ n, wx = wc.drewN n)
        case first =>
          have e1 : IntKind.i64.wrap ((A : Int) / 8) = (A : Int) / 8 := IntWalk.i64_in _ (by omega)
          have e2 : (0 : Int) ≤ (A : Int) / 8 := by omega
          have e3 : ((A : Int) / 8).toNat = A / 8 := by omega
          have e0 : (A : Int) / 8 < (s.size : Int) := by omega
          have e4 : IntKind.i64.wrap (8 - (A : Int) % 8) = 8 - (A : Int) % 8 := IntWalk.i64_in _ (by omega)
          have e5 : IntKind.i64.wrap (8 - (A : Int) % 8 - (m : Int)) = 8 - (A : Int) % 8 - (m : Int) := IntWalk.i64_in _ (by omega)
          have e6 : (0 : Int) ≤ 8 - (A : Int) % 8 - (m : Int) := by omega
          go_quiet (fail)
          go_wp2_with fail
          go_meet
          refine ⟨?_, _, rfl⟩
          rw [HX.out]
          refine val_int ?_
          rw [IntKind.wrap_u64]
          have := (s[A / 8]'hi).toNat_lt
          rw [Int.emod_eq_of_lt (by omega) (by omega), Int.natCast_ediv]
          simp
        case rest =>
          obtain ⟨rfl, nx, rfl⟩ := hcut
          go_upto_region 9 with (fail)
          obtain ⟨Z, hZ⟩ : ∃ Z : Nat, Z = cut s a (A - a) := ⟨_, rfl⟩
          have HZ : Hid (Z = cut s a (A - a)) := hZ
          have hZl := cut_lt s a (A - a)
          rw [← hZ] at hZl ⊢
          clear hZ
          go_cut [7] (fun z wx => z = .int .u64 (Z * 2 ^ m + X % 2 ^ m : Nat) ∧ ∃ n, wx = wc.drewN n)
          case first =>
            go_quiet ((go_at_call 21; first | exact quiet_here (lowest_any X m hX1 (by omega) _) | exact quiet_there (lowest_any X m hX1 (by omega) _)))
            go_wp2_with fail
            go_meet
            refine ⟨?_, nx + nq, World.drewN_drewN _ _ _⟩
            refine val_int ?_
            exact join_u64 Z (X % 2 ^ m) (A - a) m hZl (Nat.mod_lt _ (Num.two_pos m)) (by have := hE.out; have := wide_le n; omega)
          case rest =>
            obtain ⟨rfl, ny, rfl⟩ := hcut
            go_wp2
            go_roundg (gk - m)
            case measure => omega
            case rel =>
              refine ⟨A + m, by have := hE.out; show _ = _; omega, by omega, by omega, by omega, by go_num, ?_, ?_, only_setCell (only_drewN hg _) rfl _⟩
              · refine val_int ?_
                rw [HX.out, HZ.out]
                have hk : a + (A - a) = A := by omega
                have hst := cut_step s a (A - a) m (by omega) (by rw [hk]; exact hm3) (by rw [hk]; exact hi)
                rw [show A + m - a = A - a + m from by omega, ← hst]
                simp only [hk]
              · have := Rd.step (w := wc.drewN ny) (a := A) ⟨hr.blk⟩ (A + m)
                rw [Int.natCast_add] at this
                exact this
    · go_wp2
      go_ret2
      have hk : A = a + wide n := by have := hE.out; omega
      subst hk
      exact ⟨ret_two (by rw [show a + wide n - a = wide n from by omega]), ⟨hr.blk⟩, only_drewN hg 0⟩

theorem take_short {r a : Nat} {s : ByteArray} (n : Int) (w : World) (h : Rd w r s a) (ha : a ≤ 8 * s.size) (h1 : 8 * s.size < a + wide n) (h2 : s.size ≤ 140737488351232) :
    Calls Try.prog 16 #[.pointer (some ⟨r, 0, none⟩), .int .i64 n] w fun e w' => e = .returned (.tuple #[.int .u64 0, .bool false]) ∧ ∃ m, w' = w.drewN m := by
  have hd0 : decide (8 * s.size - a < wide n) = true := by simp; omega
  go_enter Try.func16, Try.ntmps16
  go_wp2_with (first | (go_at_call 20; refine (bounded_any _ _).mono ?_; rintro e w' ⟨rfl, rfl⟩) | (go_at_call 19; refine (left_any _ h (by omega) h2).mono ?_; rintro e w' ⟨rfl, m, rfl⟩))
  go_ret2
  exact ⟨rfl, _, rfl⟩

end Go.Proofs.Ytmenhgdedllioaa.Bits
