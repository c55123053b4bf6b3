/-
  Bits that are turned: contract of the closed law's helper 'turned'. Own text.
-/
import Derived.Test.YtdedkhifnecgkaaDoorEPiece
import Derived.Laws.IdiomStrings
import Derived.StillTailTactics
namespace Go.Proofs.YtdedkhifnecgkaaDoor.Enc
open Go.RowKit Go Go.Proofs.YtdedkhifnecgkaaDoor.Base

theorem mul_xor (a b k : Nat) : (a ^^^ b) * 2 ^ k = a * 2 ^ k ^^^ b * 2 ^ k := by
  apply Nat.eq_of_testBit_eq
  intro i
  simp only [Nat.testBit_xor, Nat.testBit_mul_two_pow]
  by_cases h : k ≤ i <;> simp [h]

/-- one bit of one byte, as a bit of the whole -/
theorem le_turn (l : List Nat) (j e : Nat) (hj : j < l.length) : Poly.le (l.set j (l.getD j 0 ^^^ 2 ^ e)) = Poly.le l ^^^ 2 ^ (8 * j + e) := by
  induction l generalizing j with
  | nil => simp at hj
  | cons b l ih =>
    cases j with
    | zero =>
      simp only [List.set_cons_zero, Poly.le, List.getD_cons_zero]
      rw [show 8 * 0 + e = e from by omega, Nat.xor_assoc, Nat.xor_comm (2 ^ e), Nat.xor_assoc]
    | succ j =>
      simp only [List.set_cons_succ, Poly.le, List.getD_cons_succ]
      rw [ih j (by simpa using hj), Nat.xor_assoc, mul_xor, ← Nat.pow_add, show 8 * j + e + 8 = 8 * (j + 1) + e from by omega]

theorem top_bit (m i : Nat) (h : m < 2 ^ i) : m ^^^ 2 ^ i < 2 ^ (i + 1) ∧ m ^^^ 2 ^ i ≠ 0 := by
  refine ⟨Nat.xor_lt_two_pow (Nat.lt_of_lt_of_le h (Nat.pow_le_pow_right (by decide) (by omega))) (Nat.pow_lt_pow_right (by decide) (by omega)), ?_⟩
  intro e
  have h2 := congrArg (fun z => z ^^^ 2 ^ i) e
  simp only [Nat.xor_assoc, Nat.xor_self, Nat.xor_zero, Nat.zero_xor] at h2
  omega

/-- a row of bytes in memory -/
structure Buf (w : World) (g n : Nat) (L : List Nat) : Prop where
  lt : g < w.heap.size
  len : L.length = n
  cell : ∀ i, i < n → w.cell? ⟨g, i, none⟩ = some (.int .u8 ((L.getD i 0 : Nat) : Int))
  free : ∀ i, i < n → w.frozen? ⟨g, i, none⟩ = false

theorem Buf.conv {w : World} {g n : Nat} {L : List Nat} (h : Buf w g n L) (cap : Nat) :
    (convert 61 9 (.slice (some ⟨g, 0, none⟩) n cap)).run Tryd.prog w = .ok (.string (strN L)) w := by
  rw [← strN_of]
  refine run_convert_bytes_arg _ 61 5 Tryd.underlying61 Tryd.underlying5 g 0 n cap (L.map fun (n : Nat) => (n : Int)) (by simp [h.len]) ?_ 9 Tryd.underlying9
  intro i hi
  rw [Nat.zero_add, h.cell i hi]
  have := h.len
  simp [List.getD, show i < L.length from by omega]

theorem Buf.stored {w : World} {g n : Nat} {L : List Nat} (h : Buf w g n L) (j y : Nat) (hj : j < n) : Buf (w.setCell ⟨g, j, none⟩ (.int .u8 (y : Int))) g n (L.set j y) := by
  have hl := h.len
  refine ⟨by simpa [World.setCell] using h.lt, by simp [hl], ?_, fun i hi => by rw [World.frozen?_setCell]; exact h.free i hi⟩
  intro i hi
  by_cases hij : i = j
  · subst hij
    rw [World.cell?_setCell_same _ _ _ (h.cell i hi)]
    simp [List.getD, show i < L.length from by omega]
  · rw [World.cell?_setCell_other _ _ _ _ (by intro e; injection e with _ e2 _; omega), h.cell i hi]
    simp [List.getD, show ¬ j = i from fun e => hij e.symm]

theorem Buf.drewN {w : World} {g n : Nat} {L : List Nat} (h : Buf w g n L) (k : Nat) : Buf (w.drewN k) g n L := ⟨h.lt, h.len, h.cell, h.free⟩

theorem Buf.new (w : World) (s : ByteArray) (cap : Nat) : Buf ((w.alloc (.cells (bytesRow s cap) 5 ((bytesRow s cap).size, (bytesRow s cap).size + 1))).drew) w.heap.size s.size (nums s) := by
  refine ⟨by simp [World.drew], nums_length s, ?_, ?_⟩
  · intro i hi
    show (w.alloc (.cells (bytesRow s cap) 5 ((bytesRow s cap).size, (bytesRow s cap).size + 1))).cell? ⟨w.heap.size, i, none⟩ = _
    rw [World.cell?_alloc_mark, bytesRow_at s cap i hi, List.getD, nums_at s i hi]
    rfl
  · intro i hi
    show (w.alloc (.cells (bytesRow s cap) 5 ((bytesRow s cap).size, (bytesRow s cap).size + 1))).frozen? ⟨w.heap.size, i, none⟩ = _
    rw [World.frozen?_alloc_mark]
    have : s.size ≤ (bytesRow s cap).size := by
      unfold bytesRow
      rw [Array.size_append, Array.size_map]
      exact Nat.le_add_right _ _
    rw [decide_eq_false (by omega)]
    rfl

/-- at least one bit -/
def nz (m : Nat) : Bool := decide (m ≠ 0)

theorem bit_of (mask j : Nat) (hm : mask < 4294967296) : bits BinOp.and IntKind.u32 ((mask : Int) / 2 ^ j) 1 = ((mask / 2 ^ j % 2 : Nat) : Int) := by
  rw [show ((mask : Int) / 2 ^ j) = ((mask / 2 ^ j : Nat) : Int) from by simp, show (1 : Int) = ((1 : Nat) : Int) from rfl, u32_and_nat _ _ (Nat.lt_of_le_of_lt (Nat.div_le_self _ _) hm) (by decide), nat_mask1]

theorem flip_u8 (b e : Nat) (hb : b < 256) (he : e < 8) : bits BinOp.xor IntKind.u8 (b : Int) (2 ^ e % 256) = ((b ^^^ 2 ^ e : Nat) : Int) := by
  have h1 : (2 : Nat) ^ e < 2 ^ 8 := Nat.pow_lt_pow_right (by decide) he
  have h2 : ((2 : Int) ^ e % 256) = ((2 ^ e : Nat) : Int) := by
    have : ((2 : Int) ^ e) = ((2 ^ e : Nat) : Int) := by simp
    rw [this]
    generalize 2 ^ e = x at *
    omega
  rw [h2, u8_xor_nat _ _ hb (by omega)]

set_option maxHeartbeats 1000000 in
theorem turned_any (s : ByteArray) (at' mask : Nat) (hs : s.size ≤ 8192) (ha : at' < 8 * s.size) (hm : mask < 4294967296) (w : World) :
    Calls Tryd.prog 35 #[.string s, .int .i64 (at' : Int), .int .u32 (mask : Int)] w fun e w' => ∃ (L : List Nat) (m : Nat), e = .returned (.tuple #[.string (strN L), .bool (nz m)]) ∧ m < 4294967296 ∧
      L.length = s.size ∧ (∀ x ∈ L, x < 256) ∧ Poly.le L = Poly.le (nums s) ^^^ m * 2 ^ at' ∧ Below w.heap.size w w' := by
  have hconv := run_bytes_of_string (P := Tryd.prog) w 9 61 5 s Tryd.underlying9 Tryd.underlying61 Tryd.underlying5
  have hnew := Buf.new w s (grownCap w s.size 0 5)
  have hB0 : Below w.heap.size w ((w.alloc (.cells (bytesRow s (grownCap w s.size 0 5)) 5 ((bytesRow s (grownCap w s.size 0 5)).size, (bytesRow s (grownCap w s.size 0 5)).size + 1))).drew) := below_drewN (below_alloc w _) 1
  have HNew := Lib.hid hnew
  have HM := Lib.hid hm
  clear hnew hm
  go_enter Tryd.func35, Tryd.ntmps35
  go_wp2_with fail
  clear hconv
  generalize grownCap w s.size 0 5 = cap at *
  generalize (w.alloc (.cells (bytesRow s cap) 5 ((bytesRow s cap).size, (bytesRow s cap).size + 1))).drew = w1 at *
  obtain ⟨g, hg⟩ : ∃ g, w.heap.size = g := ⟨_, rfl⟩
  rw [hg] at HNew
  have HG := Lib.hid hg
  simp only [hg]
  clear hg
  go_loopg [9, 13] 32 (fun r u i wr => ∃ (j m : Nat) (L : List Nat), Hid (j + r = 32) ∧ j ≤ 32 ∧ i = .int .i64 (j : Int) ∧ u = .bool (nz m) ∧ Hid (m < 2 ^ j) ∧ Hid (Poly.le L = Poly.le (nums s) ^^^ m * 2 ^ at') ∧ Hid (∀ x ∈ L, x < 256) ∧ Hid (Buf wr g s.size L) ∧ Below w.heap.size w wr)
  case atStart => exact ⟨0, 0, nums s, rfl, by omega, rfl, rfl, by show _ < _; decide, by show _ = _; simp, nums_lt s, HNew, hB0⟩
  case round =>
    obtain ⟨j, m, L, hE, hj, rfl, rfl, hmj, HL, H256, HBuf, hB⟩ := hrel
    clear hB0 HNew
    by_cases hlt : j < 32
    · have hlti : (j : Int) < 32 := by omega
      have hbit := bit_of mask j HM.out
      rcases Nat.mod_two_eq_zero_or_one (mask / 2 ^ j) with hz | hz
      · rw [hz] at hbit
        clear hz
        go_wp2_with fail
        go_roundg (32 - (j + 1))
        case measure => have := hE.out; omega
        case rel => exact ⟨j + 1, m, L, by show _ = _; omega, by omega, by go_num, rfl, Nat.lt_of_lt_of_le hmj.out (Nat.pow_le_pow_right (by decide) (by omega)), HL, H256, HBuf, hB⟩
      · rw [hz] at hbit
        clear hz
        have k1 : (at' : Int) / 8 < (s.size : Int) := by omega
        by_cases hin : (at' % 8 + j) / 8 < s.size - at' / 8
        · have k2 : ((at' : Int) % 8 + (j : Int)) / 8 < (s.size : Int) - (at' : Int) / 8 := by omega
          obtain ⟨p, hp, hpn⟩ : ∃ p : Nat, (at' : Int) / 8 + ((at' : Int) % 8 + (j : Int)) / 8 = (p : Int) ∧ p < s.size := ⟨at' / 8 + (at' % 8 + j) / 8, by omega, by omega⟩
          obtain ⟨e, he, he8⟩ : ∃ e : Nat, ((at' : Int) % 8 + (j : Int)) % 8 = (e : Int) ∧ e < 8 := ⟨(at' % 8 + j) % 8, by omega, by omega⟩
          have hpe : 8 * p + e = at' + j := by omega
          have HPE := Lib.hid hpe
          obtain ⟨b, hbb⟩ : ∃ b, b = L.getD p 0 := ⟨_, rfl⟩
          have hcell := HBuf.out.cell p hpn
          have hfree := HBuf.out.free p hpn
          rw [← hbb] at hcell
          have HBB := Lib.hid hbb
          have hb256 : b < 256 := by
            rw [hbb, List.getD, List.getElem?_eq_getElem (by rw [HBuf.out.len]; exact hpn)]
            exact H256.out _ (List.getElem_mem _)
          clear hbb hpe
          go_upto_region 7 with (fail)
          go_cut [] (fun wx => Buf wx g s.size (L.set p (b ^^^ 2 ^ e)) ∧ Below w.heap.size w wx)
          case first =>
            have d1 : IntKind.i64.wrap ((at' : Int) / 8) = (at' : Int) / 8 := IntWalk.i64_in _ (by omega)
            have d2 : IntKind.i64.wrap ((at' : Int) % 8 + (j : Int)) = (at' : Int) % 8 + (j : Int) := IntWalk.i64_in _ (by omega)
            have d3 : IntKind.i64.wrap (((at' : Int) % 8 + (j : Int)) / 8) = ((at' : Int) % 8 + (j : Int)) / 8 := IntWalk.i64_in _ (by omega)
            have d4 : IntKind.i64.wrap (p : Int) = (p : Int) := IntWalk.i64_in _ (by omega)
            have d5 : (p : Int) < (s.size : Int) := by omega
            have t1 : (at' : Int).tmod 8 = (at' : Int) % 8 := Int.tmod_eq_emod_of_nonneg (by omega)
            have t2 : ((at' : Int) % 8 + (j : Int)).tmod 8 = (e : Int) := by rw [Int.tmod_eq_emod_of_nonneg (by omega), he]
            have t3 : ((at' : Int) % 8 + (j : Int)).tdiv 8 = ((at' : Int) % 8 + (j : Int)) / 8 := Int.tdiv_eq_ediv_of_nonneg (by omega)
            refine wp_region_still_tail 19 (by kernel_rfl) (by kernel_rfl) ?_
            simp only [List.take_succ_cons, List.take_zero, List.drop_succ_cons, List.drop_zero]
            change wpStill _ _ wr.drew _ _ _
            repeat still_step
            refine wpStill_nil ?_
            go_wp2_with fail
            go_meet
            rw [flip_u8 b e hb256 he8]
            refine ⟨(HBuf.out.stored p _ hpn).drewN 1, below_drewN (hB.setCell (by have := HG.out; show _ ≤ g; omega) _) 1⟩
          case rest =>
            obtain ⟨hbuf, hB2⟩ := hcut
            have HBuf2 := Lib.hid hbuf
            clear hbuf hcell hfree HBuf hB
            obtain ⟨m1, m2⟩ := top_bit m j hmj.out
            go_wp2_with fail
            go_roundg (32 - (j + 1))
            case measure => have := hE.out; omega
            case rel =>
              refine ⟨j + 1, m ^^^ 2 ^ j, L.set p (b ^^^ 2 ^ e), by show _ = _; omega, by omega, by go_num, ?_, m1, ?_, ?_, HBuf2, hB2⟩
              · unfold nz
                rw [decide_eq_true m2]
              · show _ = _
                have hp2 : p < L.length := by have := HBuf2.out.len; rw [List.length_set] at this; omega
                rw [HBB.out, le_turn L p e hp2, HL.out, HPE.out, mul_xor, Nat.xor_assoc, ← Nat.pow_add, Nat.add_comm at' j]
              · intro x hx
                rcases List.mem_or_eq_of_mem_set hx with h | h
                · exact H256.out x h
                · rw [h]
                  exact Nat.xor_lt_two_pow (n := 8) hb256 (Nat.pow_lt_pow_right (by decide) he8)
        · have k2 : ¬ ((at' : Int) % 8 + (j : Int)) / 8 < (s.size : Int) - (at' : Int) / 8 := by omega
          go_wp2_with fail
          go_roundg (32 - (j + 1))
          case measure => have := hE.out; omega
          case rel => exact ⟨j + 1, m, L, by show _ = _; omega, by omega, by go_num, rfl, Nat.lt_of_lt_of_le hmj.out (Nat.pow_le_pow_right (by decide) (by omega)), HL, H256, HBuf, hB⟩
    · obtain rfl : j = 32 := by omega
      have hc := HBuf.out.conv cap
      go_wp2_with fail
      go_ret2
      exact ⟨L, m, rfl, hmj.out, HBuf.out.len, H256.out, HL.out, hB⟩
end Go.Proofs.YtdedkhifnecgkaaDoor.Enc
