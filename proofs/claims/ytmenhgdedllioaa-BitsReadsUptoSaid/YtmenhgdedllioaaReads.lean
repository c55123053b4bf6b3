/-
  The law BitsReads: its walk. A reader, and the document's list of bits beside it. Own text.
-/
import Derived.Test.YtmenhgdedllioaaRefR
namespace Go.Proofs.Ytmenhgdedllioaa.Bits
open Go.RowKit Go

/-- the cells of a list of integers (nil: it is empty) -/
def IntsAt (w : World) (ao : Option Addr) (len : Nat) (N : Nat → Int) : Prop :=
  ∀ j, j < len → ∃ b off, ao = some ⟨b, off, none⟩ ∧ b < w.heap.size ∧ w.cell? ⟨b, off + j, none⟩ = some (.int .i64 (N j))

theorem Bl.kept {w w' : World} {B r : Nat} {v : Value} {L : List Nat} {cs : Array Value} {t : TypeId} (h : Bl w B v L) (hg : w.grownBy w' (some r)) (hr : w.heap[r]? = some (.cells cs t (0, 0))) (hne : 5 ≠ t := by decide) : Bl w' B v L :=
  ⟨h.own.kept hg (.inr (own_ne h.own hr hne)), h.bits⟩
theorem Bl.later {w w' : World} {B : Nat} {v : Value} {L : List Nat} (h : Bl w B v L) (hb : Below w.heap.size w w') : Bl w' B v L :=
  ⟨own_same h.own fun k hk => hb.block k (h.own.lt k hk).2, h.bits⟩
theorem below_drewN {B : Nat} {a w : World} (h : Below B a w) (n : Nat) : Below B a (w.drewN n) := ⟨h.os, h.tape, h.output, h.size, h.block⟩

set_option maxHeartbeats 800000 in
set_option maxRecDepth 100000 in
theorem reads_walk (s : ByteArray) (ao : Option Addr) (len cap : Nat) (N : Nat → Int) (w : World) (hs : s.size ≤ 1048576) (hl : len ≤ 1048576) (hF : IntsAt w ao len N) :
    Calls Try.prog 4 #[.string s, .slice ao len cap] w fun e w' => e = .returned (.bool true) ∧ Below w.heap.size w w' := by
  go_enter Try.func4, Try.ntmps4
  go_wp2_with fail
  refine (open_any s w).mono ?_
  rintro e W1 ⟨rfl, rfl⟩
  have hr1 : Rd (w.alloc (.cells #[.string s, .int .i64 0] 50)) w.heap.size s 0 := ⟨heap_alloc_new _ _⟩
  have hb1 : Below w.heap.size w (w.alloc (.cells #[.string s, .int .i64 0] 50)) := below_alloc _ _
  have hz1 := hb1.size
  generalize (w.alloc (.cells #[.string s, .int .i64 0] 50)) = W1 at *
  go_wp2_with fail
  refine (wakes_any _).mono ?_
  rintro e W2 ⟨rfl, h2⟩
  have hr2 := hr1.later h2
  have hb2 := hb1.trans (h2.mono hz1)
  have hz2 := hb2.size
  clear hr1 hb1 hz1 h2
  go_wp2_with fail
  refine (refList_any s W2 (by omega)).mono ?_
  rintro e W3 ⟨u, rfl, hL3, h3⟩
  have hr3 := hr2.later h3
  have hb3 := hb2.trans (h3.mono hz2)
  have hz3 := hb3.size
  clear hr2 hb2 h3
  obtain ⟨au, cu, rfl, _⟩ := hL3.reads
  rw [bitsS_length] at hL3 ⊢
  generalize W2.heap.size = B at *
  have HF := Lib.hid hF
  clear hF
  go_wp2_with fail
  go_loopg [7, 25] len (fun r a i wr => ∃ k c : Nat, Hid (k + r = len) ∧ k ≤ len ∧ i = .int .i64 (k : Int) ∧ a = .int .i64 (c : Int) ∧ c ≤ 8 * s.size ∧ Rd wr w.heap.size s c ∧ Bl wr B (.slice au (8 * s.size) cu) (bitsS s (8 * s.size)) ∧ Below w.heap.size w wr)
  case atStart => exact ⟨0, 0, Nat.zero_add _, Nat.zero_le _, rfl, rfl, Nat.zero_le _, hr3, hL3, hb3⟩
  case round =>
    obtain ⟨k, c, hE, hk, rfl, rfl, hc, hr, hL, hB⟩ := hrel
    have hsz := hB.size
    clear hr3 hL3 hb3 hz2 hz3
    by_cases hlt : k < len
    · obtain ⟨b, off, rfl, hb, q0⟩ := HF.out k hlt
      have g0 := (hB.cell (p := ⟨b, off + k, none⟩) hb).trans q0
      clear q0
      generalize N k = n at g0
      have hw := wide_le n
      by_cases hroom : c + wide n ≤ 8 * s.size
      · have htake := take_any n wr hr hroom (by omega)
        have HT := Lib.hid htake
        clear htake
        go_wp2_with fail
        refine HT.out.mono ?_
        rintro e W4 ⟨rfl, hr4, hg4⟩
        have hL4 := hL.kept hg4 hr.blk
        have hB4 : Below w.heap.size w W4 := hB.grown hg4 hsz (fun k hk => by injection hk with hk; omega)
        clear hg4 hr hL hB HT
        go_wp2_with fail
        refine (refWidth_any _ _).mono ?_
        rintro e W5 ⟨rfl, rfl⟩
        have hnum := refNumber_any c (wide n) W4 (B := B) (ao := au) (cap := cu) (L := bitsS s (8 * s.size)) (by rw [bitsS_length]; exact hL4) (by rw [bitsS_length]; exact hroom) hw (by rw [bitsS_length]; omega)
        rw [bitsS_length, bitsS_seg s c (wide n) hroom] at hnum
        have HN := Lib.hid hnum
        clear hnum
        go_wp2_with fail
        refine HN.out.mono ?_
        rintro e W5 ⟨rfl, rfl⟩
        have hleft := left_any W4 hr4 hroom (by omega)
        have HM := Lib.hid hleft
        clear hleft HN
        go_wp2_with fail
        refine HM.out.mono ?_
        rintro e W5 ⟨rfl, m5, rfl⟩
        have e1 : ((8 * s.size - (c + wide n) : Nat) : Int) = 8 * (s.size : Int) - ((c : Int) + (wide n : Int)) := by omega
        go_wp2_with fail
        go_roundg (len - (k + 1))
        case measure => have := hE.out; omega
        case rel => exact ⟨k + 1, c + wide n, by show _ = _; omega, by omega, by go_num, by go_num, hroom, ⟨hr4.blk⟩, ⟨hL4.own, hL4.bits⟩, below_drewN hB4 _⟩
      · have htake := take_short n wr hr hc (by omega) (by omega)
        have HT := Lib.hid htake
        clear htake
        go_wp2_with fail
        refine HT.out.mono ?_
        rintro e W4 ⟨rfl, m4, rfl⟩
        clear HT
        go_wp2_with fail
        refine (refWidth_any _ _).mono ?_
        rintro e W5 ⟨rfl, rfl⟩
        have hleft := left_any (wr.drewN m4) (r := w.heap.size) (a := c) (s := s) ⟨hr.blk⟩ hc (by omega)
        have HM := Lib.hid hleft
        clear hleft
        go_wp2_with fail
        refine HM.out.mono ?_
        rintro e W5 ⟨rfl, m5, rfl⟩
        have e1 : ((8 * s.size - c : Nat) : Int) = 8 * (s.size : Int) - (c : Int) := by omega
        go_wp2_with fail
        go_roundg (len - (k + 1))
        case measure => have := hE.out; omega
        case rel => exact ⟨k + 1, c, by show _ = _; omega, by omega, by go_num, rfl, hc, ⟨hr.blk⟩, ⟨hL.own, hL.bits⟩, below_drewN hB _⟩
    · go_wp2_with fail
      go_ret
      exact ⟨rfl, hB⟩
end Go.Proofs.Ytmenhgdedllioaa.Bits
