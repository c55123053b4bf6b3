/-
  The law BitsPacks: its walk. A writer, and the document's list of bits beside it. Own text.
-/
import Derived.Test.YtmenhgdedllioaaRef
import Derived.Test.YtmenhgdedllioaaSeq
import Derived.Test.YtmenhgdedllioaaFields
namespace Go.Proofs.Ytmenhgdedllioaa.Bits
open Go.RowKit Go

/-- a writer at block B, and the list of its bits -/
structure Pair (w W : World) (B : Nat) (v u : Value) (L : List Nat) : Prop where
  a : Wr W B B v (Num.seg L 0 L.length) L.length
  b : Bl W B u L
  apart : ∀ k, v.ownBlock = some k → u.ownBlock ≠ some k
  below : Below B w W

section
variable {w W W' : World} {B : Nat} {v u v' u' : Value} {L : List Nat}

theorem Pair.size (h : Pair w W B v u L) : B ≤ W.heap.size := by have := h.a.lt; omega

theorem Pair.later (h : Pair w W B v u L) (hb : Below W.heap.size W W') : Pair w W' B v u L :=
  ⟨h.a.later hb, ⟨own_same h.b.own fun k hk => hb.block k (h.b.own.lt k hk).2, h.b.bits⟩, h.apart, h.below.trans (hb.mono h.size)⟩

/-- the writer has gone on -/
structure Half (w W : World) (B : Nat) (v u : Value) (L : List Nat) (x k : Nat) : Prop where
  a : Wr W B B v (Num.putN (Num.seg L 0 L.length) x k) (L.length + k)
  b : Bl W B u L
  apart : ∀ k, v.ownBlock = some k → u.ownBlock ≠ some k
  below : Below B w W

theorem Half.size {x k : Nat} (h : Half w W B v u L x k) : B ≤ W.heap.size := by have := h.a.lt; omega

theorem Pair.put {x k : Nat} (h : Pair w W B v u L) (hr : Wr W' B B v' (Num.putN (Num.seg L 0 L.length) x k) (L.length + k)) (ht : Tch W W' B v v') : Half w W' B v' u L x k where
  a := hr
  b := ⟨own_same h.b.own fun k hk => ht.block k (h.b.own.lt k hk).2 (fun e => own_ne h.b.own h.a.blk (hne := by decide) (by rw [hk, e])) (fun e => h.apart k e hk), h.b.bits⟩
  apart := fun k hk he => by
    rcases ht.row with e | e
    · exact h.apart k (by rw [← e]; exact hk) he
    · have := e k hk
      have := (h.b.own.lt k he).2
      omega
  below := ht.below h.size (Nat.le_refl _) h.a.row h.below

theorem Half.put {x k : Nat} (h : Half w W B v u L x k) (hr : Bl W' B u' (L ++ Num.bitsL k x)) (ht : Tch W W' W.heap.size u u') : Pair w W' B v u' (L ++ Num.bitsL k x) where
  a := by
    rw [List.length_append, Num.bitsL_length, Num.seg_bits]
    exact ⟨by rw [ht.block _ h.a.lt (by have := h.a.lt; omega) (own_ne h.b.own h.a.blk)]; exact h.a.blk,
      own_same h.a.own fun k hk => ht.block k (h.a.own.lt k hk).2 (by have := (h.a.own.lt k hk).2; omega) (h.apart k hk)⟩
  b := hr
  apart := fun k hk he => by
    rcases ht.row with e | e
    · exact h.apart k hk (by rw [← e]; exact he)
    · have := e k he
      have := (h.a.own.lt k hk).2
      omega
  below := ht.below h.size h.size (fun k hk => (h.b.own.lt k hk).1) h.below
end

/-- the bits of the first k fields -/
def bitsOf (V N : Nat → Int) : Nat → List Nat
  | 0 => []
  | k + 1 => bitsOf V N k ++ Num.bitsL (wide (N k)) (V k).toNat

theorem bitsOf_le (V N : Nat → Int) (k : Nat) : (bitsOf V N k).length ≤ 64 * k := by
  induction k with
  | zero => simp [bitsOf]
  | succ k ih =>
    have := wide_le (N k)
    simp only [bitsOf, List.length_append, Num.bitsL_length]
    omega

theorem pair_new (w : World) : Pair w (w.alloc (.cells #[.slice none 0 0, .int .i64 0] 26)) w.heap.size (.slice none 0 0) (.slice none 0 0) [] :=
  ⟨Wr.new w _, ⟨World.ownsRow_nil _ _ _ _, Num.isBits_nil⟩, fun k hk => by simp [Value.ownBlock] at hk, below_alloc _ _⟩

set_option maxHeartbeats 800000 in
set_option maxRecDepth 100000 in
theorem packs_walk (ao : Option Addr) (len cap : Nat) (V N : Nat → Int) (w : World) (hl : len ≤ 1048576) (hF : FieldsAt w ao len V N) :
    Calls Try.prog 3 #[.slice ao len cap] w fun e w' => e = .returned (.bool true) ∧ Below w.heap.size w w' := by
  go_enter Try.func3, Try.ntmps3
  go_wp2_with fail
  go_loopg [4, 11] len (fun r u i wr => ∃ (k : Nat) (v : Value), Hid (k + r = len) ∧ k ≤ len ∧ i = .int .i64 (k : Int) ∧ Pair w wr w.heap.size v u (bitsOf V N k))
  case atStart => exact ⟨0, _, Nat.zero_add _, Nat.zero_le _, rfl, pair_new w⟩
  case round =>
    obtain ⟨k, v, hE, hk, rfl, hP⟩ := hrel
    have hsz := hP.size
    by_cases hlt : k < len
    · obtain ⟨b, off, rfl, hb, q0, q1, v0, v1⟩ := hF k hlt
      have g0 := (hP.below.cell (p := ⟨b, off + k * 2, none⟩) hb).trans q0
      have g1 := (hP.below.cell (p := ⟨b, off + k * 2 + 1, none⟩) hb).trans q1
      have hlen := bitsOf_le V N k
      have hnext : bitsOf V N (k + 1) = bitsOf V N k ++ Num.bitsL (wide (N k)) (V k).toNat := rfl
      have HX := Lib.hid hnext
      clear hnext q0 q1 hF
      obtain ⟨x, hx⟩ := Int.eq_ofNat_of_zero_le v0
      rw [hx] at g0 HX v1
      rw [Int.toNat_natCast] at HX
      have HV := Lib.hid v1
      clear v0 v1 hx
      generalize N k = n at g1 HX
      generalize bitsOf V N k = L at *
      have hPa := hP.later (below_alloc wr (.cells #[.int .u64 (x : Int), .int .i64 n] 29))
      have hq : wr.heap.size < (wr.alloc (.cells #[.int .u64 (x : Int), .int .i64 n] 29)).heap.size := by simp
      go_wp2_with fail
      refine (put_any x n _ hPa.a (by have := HV.out; omega) (by omega) hPa.size).mono ?_
      rintro e W1 ⟨rfl, v1, hr1, ht1⟩
      have hH := hPa.put hr1 ht1
      have c0 : W1.cell? ⟨wr.heap.size, 0, none⟩ = some (.int .u64 (x : Int)) := by
        rw [World.cell?_of_block (w := wr.alloc (.cells #[.int .u64 (x : Int), .int .i64 n] 29)) (ht1.block wr.heap.size hq (by have := hP.a.lt; omega) (fun e => by have := hP.a.own.lt _ e; omega))]
        exact World.cell?_alloc_new _ _ _ _
      have c1 : W1.cell? ⟨wr.heap.size, 1, none⟩ = some (.int .i64 n) := by
        rw [World.cell?_of_block (w := wr.alloc (.cells #[.int .u64 (x : Int), .int .i64 n] 29)) (ht1.block wr.heap.size hq (by have := hP.a.lt; omega) (fun e => by have := hP.a.own.lt _ e; omega))]
        exact World.cell?_alloc_new _ _ _ _
      clear hr1 ht1 hPa hq hP g0 g1
      go_wp2_with fail
      refine (refPut_any x n _ hH.b (by have := HV.out; omega) (by omega) hH.size).mono ?_
      rintro e W2 ⟨u', rfl, hr2, ht2⟩
      have hP2 := hH.put hr2 ht2
      clear hr2 ht2 hH c0 c1
      have hlen2 : (L ++ Num.bitsL (wide n) x).length ≤ 67108864 := by rw [List.length_append, Num.bitsL_length]; have := wide_le n; omega
      rw [← HX.out] at hP2 hlen2
      clear hlen
      obtain ⟨L2, hL2⟩ : ∃ L2, L2 = bitsOf V N (k + 1) := ⟨_, rfl⟩
      rw [← hL2] at hP2 hlen2
      have HL2 := Lib.hid hL2
      clear hL2 HX
      obtain ⟨ao2, cap2, rfl, _⟩ := hP2.b.reads
      have hy := bytes_any W2 hP2.a
      have hz := len_any W2 hP2.a
      have hrb := refBytes_any W2 hP2.b (by omega)
      generalize strN (Num.packB (Num.seg L2 0 L2.length) L2.length) = S at hy hrb
      have HY := Lib.hid hy
      have HZ := Lib.hid hz
      have HR := Lib.hid hrb
      have HP2 := Lib.hid hP2
      obtain ⟨c, hc⟩ : ∃ c, c = L2.length := ⟨_, rfl⟩
      have HC := Lib.hid hc
      rw [← hc] at HZ HR hlen2 ⊢
      clear hy hz hrb hP2 hc
      go_wp2_with fail
      refine HZ.out.mono ?_
      rintro e W3 ⟨rfl, rfl⟩
      go_wp2_with fail
      refine HY.out.mono ?_
      rintro e W3 ⟨rfl, rfl⟩
      go_wp2_with fail
      refine HR.out.mono ?_
      rintro e W3 ⟨rfl, hb3⟩
      go_wp2_with fail
      go_roundg (len - (k + 1))
      case measure => have := hE.out; omega
      case rel =>
        refine ⟨k + 1, v1, by show _ = _; omega, by omega, by go_num, ?_⟩
        rw [HC.out, ← HL2.out]
        exact HP2.out.later hb3
    · clear hF
      go_wp2_with (first | (go_at_call 13; refine (wakes_any _).mono ?_; rintro e w' ⟨rfl, hb1⟩))
      go_ret
      exact ⟨rfl, hP.below.trans (hb1.mono hsz)⟩
end Go.Proofs.Ytmenhgdedllioaa.Bits
