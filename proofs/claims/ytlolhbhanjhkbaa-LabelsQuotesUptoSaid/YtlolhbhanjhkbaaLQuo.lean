/-
  The quoted form of a text: contracts of isPrintable, Quote. Own text.
-/
import Derived.Test.YtlolhbhanjhkbaaLMake
import Derived.Test.YtlolhbhanjhkbaaDRow
import Derived.Deep.RegionLaw
namespace Go.Proofs.Ytlolhbhanjhkbaa.Lab
open Go.RowKit Go Go.Proofs.Ytlolhbhanjhkbaa.Base Go.Shelf Go.Sort

def prB (c : Nat) : Bool := decide (32 ≤ c) && decide (c ≤ 126)
theorem isPrintable_any (c : Nat) (hc : c < 256) (w : World) :
    Calls Try.prog 57 #[.int .u8 (c : Int)] w fun e w' => e = .returned (.bool (prB c)) ∧ w = w' := by
  unfold prB
  by_cases a : 32 ≤ c
  · by_cases b : c ≤ 126
    · rw [(by simp [a, b] : (decide (32 ≤ c) && decide (c ≤ 126)) = true)]
      go_enter Try.func57, Try.ntmps57
      go_wp2_with fail
      go_ret
      exact ⟨ret_bool (by first | rfl | (simp; omega)), rfl⟩
    · rw [(by simp; omega : (decide (32 ≤ c) && decide (c ≤ 126)) = false)]
      go_enter Try.func57, Try.ntmps57
      go_wp2_with fail
      go_ret
      exact ⟨ret_bool (by first | rfl | (simp; omega)), rfl⟩
  · rw [(by simp; omega : (decide (32 ≤ c) && decide (c ≤ 126)) = false)]
    go_enter Try.func57, Try.ntmps57
    go_wp2_with fail
    go_ret
    exact ⟨ret_bool (by first | rfl | (simp; omega)), rfl⟩

/-- a digit to the base 16 -/
def hexd (k : Nat) : Nat := if k < 10 then 48 + k else 87 + k
/-- the quoted form of a byte -/
def qb (b : Nat) : List Nat := if prB b = false then [92, 120, hexd (b / 16), hexd (b % 16)] else if b = 34 ∨ b = 92 then [92, b] else [b]
def quoteN (l : List Nat) : List Nat := 34 :: (l.flatMap qb ++ [34])
def quoteS (s : ByteArray) : ByteArray := strN (quoteN (nums s))
theorem qb_length (b : Nat) : 1 ≤ (qb b).length ∧ (qb b).length ≤ 4 := by
  unfold qb; split; exact ⟨by simp, by simp⟩; split <;> exact ⟨by simp, by simp⟩
theorem flat_length (l : List Nat) : (l.flatMap qb).length ≤ 4 * l.length := by
  induction l with
  | nil => simp
  | cons x l ih => rw [List.flatMap_cons, List.length_append, List.length_cons]; have := qb_length x; omega

/-- bytes in a row of the call's own -/
structure Bytes8 (w wr : World) (v : Value) (l : List Nat) : Prop where
  below : Below w.heap.size w wr
  row : wr.ownsRow 0 5 1 v l.length (u8s l)
  new : ∀ k, v.ownBlock = some k → w.heap.size ≤ k

theorem Bytes8.append {w wr : World} {v : Value} {l : List Nat} (h : Bytes8 w wr v l) (cs : Array Value) (m : List Nat) (hcs : cs = (u8s m).toArray) (hl : l.length + m.length ≤ 140737488351232) :
    ∃ ao cap w', (Builtin.append_ #[82, 82] 82 #[v, .slice (some ⟨wr.heap.size, 0, none⟩) m.length m.length]).run Try.prog (wr.alloc (.cells cs 5)) = .ok (.slice ao (l.length + m.length) cap) w' ∧ Bytes8 w w' (.slice ao (l.length + m.length) cap) (l ++ m) := by
  subst hcs
  obtain ⟨i0, hi, hz0, hz1, hz2⟩ := info_parts info8
  have hsrc : Src Try.prog 1 82 (.slice (some ⟨wr.heap.size, 0, none⟩) m.length m.length) m.length (u8s m) (wr.alloc (.cells (u8s m).toArray 5)) := by
    refine Src.ofSlice _ Try.underlying82 _ m.length m.length _ (by rw [u8s_length]; omega) ?_ ?_
    · intro j u hu
      rw [Go.WideShapes.add_plain, Nat.zero_add]
      exact cell_new rfl (by simpa using hu)
    · intro u hu
      unfold u8s at hu
      obtain ⟨x, _, rfl⟩ := List.mem_map.1 hu
      rfl
  obtain ⟨v', w', h1, h2, h3, h4⟩ := Row.append_src (P := Try.prog) (wr.alloc (.cells (u8s m).toArray 5)) 82 82 82 5 i0 _ 1 1 Try.underlying82 hi hz0 hz1 hz2 rfl (by decide) v l.length _ (h.row.alloc _) _ m.length _ hsrc (by unfold maxLen; omega) (by omega)
  have hb : Below w.heap.size w w' := (h.below.alloc h.below.size _).grown h3 (by simp; have := h.below.size; omega) h.new
  have hnew : ∀ k, v'.ownBlock = some k → w.heap.size ≤ k := fun k hk => by
    rcases h4 with e | e
    · exact h.new k (by rw [← e]; exact hk)
    · rw [hk] at e
      injection e with e
      have := h.below.size
      rw [World.size_alloc] at e
      omega
  rw [← u8s_append] at h2
  have h2' : w'.ownsRow 0 5 1 v' (l ++ m).length (u8s (l ++ m)) := by rw [List.length_append]; exact h2
  rcases h2'.2 with ⟨e, h0⟩ | ⟨g, cap, cur, e, h5⟩
  · have hz : l.length + m.length = 0 := by rw [List.length_append] at h0; exact h0
    subst e
    exact ⟨none, 0, w', by rw [hz]; exact h1, hb, by rw [hz]; exact h2', by rw [hz]; exact hnew⟩
  · rw [List.length_append] at e
    subst e
    exact ⟨_, cap, w', h1, hb, h2', hnew⟩


theorem Bytes8.len {w wr : World} {v : Value} {l : List Nat} (h : Bytes8 w wr v l) : ∃ ao cap, v = .slice ao l.length cap := by
  rcases h.row.2 with ⟨e, h0⟩ | ⟨g, cap, cur, e, h5⟩
  · exact ⟨none, 0, by rw [e, h0]⟩
  · exact ⟨_, _, e⟩
theorem Bytes8.nil (w : World) : Bytes8 w w (.slice none 0 0) [] := ⟨Below.refl _ _, World.ownsRow_nil _ _ _ _, fun k hk => by cases hk⟩
theorem Bytes8.first (w : World) (cs : Array Value) (m : List Nat) (hcs : cs = (u8s m).toArray) (hm : m.length ≤ 1024) : Bytes8 w (w.alloc (.cells cs 5)) (.slice (some ⟨w.heap.size, 0, none⟩) m.length m.length) m := by
  subst hcs
  refine ⟨below_alloc _ _, ⟨by rw [u8s_length]; omega, .inr ⟨w.heap.size, m.length, (u8s m).toArray, rfl, Nat.zero_le _, heap_alloc_new _ _, Nat.le_refl _, by unfold maxLen; omega, by simp [u8s_length], ?_⟩⟩, fun k hk => by (simp only [Value.ownBlock, Option.some.injEq] at hk; omega)⟩
  rw [List.take_of_length_le (by simp [u8s_length])]
theorem Bytes8.text {w wr : World} {v : Value} {l : List Nat} (h : Bytes8 w wr v l) : (convert 82 9 v).run Try.prog wr = .ok (.string (strN l)) wr := conv_own h.row
theorem Bytes8.drewN {w wr : World} {v : Value} {l : List Nat} (h : Bytes8 w wr v l) (n : Nat) : Bytes8 w (wr.drewN n) v l := ⟨below_drewN h.below n, ⟨h.row.1, h.row.2⟩, h.new⟩

abbrev hexLit : ByteArray := ⟨#[48, 49, 50, 51, 52, 53, 54, 55, 56, 57, 97, 98, 99, 100, 101, 102]⟩
theorem hexLit_at (c : Nat) (h : c < 16) : (hexLit[c]'h).toNat = hexd c := by
  have : ∀ c : Fin 16, (hexLit[c.1]'c.2).toNat = hexd c.1 := by decide
  exact this ⟨c, h⟩

theorem flat_take (l : List Nat) (k : Nat) (h : k < l.length) : (l.take (k + 1)).flatMap qb = (l.take k).flatMap qb ++ qb (l.getD k 0) := by
  rw [List.take_succ_eq_append_getElem h, List.flatMap_append]
  simp [List.getD, List.getElem?_eq_getElem h]

set_option maxRecDepth 100000 in
set_option maxHeartbeats 4000000 in
theorem quote_any (s : ByteArray) (hs : s.size ≤ 17592186044416) (w : World) :
    Calls Try.prog 35 #[.string s] w fun e w' => e = .returned (.string (quoteS s)) ∧ Below w.heap.size w w' := by
  have h0 := Bytes8.first w #[.int .u8 34] [34] rfl (by decide)
  have h0' : Bytes8 w (w.alloc (.cells #[.int .u8 34] 5)) (.slice (some ⟨w.heap.size, 0, none⟩) 1 1) [34] := h0
  have H0 := Lib.hid h0'
  have HS := Lib.hid hs
  clear h0 h0' hs
  go_enter Try.func35, Try.ntmps35
  go_wp2_with fail
  go_loopg [3, 9] s.size (fun r q i wr => ∃ (k : Nat) (ao : Option Addr) (n cap : Nat), Hid (k + r = s.size) ∧ k ≤ s.size ∧ i = .int .i64 (k : Int) ∧ q = .slice ao n cap ∧ n ≤ 4 * k + 1 ∧ Hid (n = (34 :: ((nums s).take k).flatMap qb).length) ∧ Hid (Bytes8 w wr q (34 :: ((nums s).take k).flatMap qb)))
  case atStart => exact ⟨0, _, 1, 1, Nat.zero_add _, Nat.zero_le _, rfl, rfl, by omega, rfl, H0.out⟩
  case round =>
    obtain ⟨k, ao, n, cap, hE, hk, rfl, rfl, hn, HN, HB⟩ := hrel
    have hk2 := HS.out
    by_cases hlt : k < s.size
    · obtain ⟨b, hb⟩ : ∃ b, b = (s[k]'hlt).toNat := ⟨_, rfl⟩
      have hbl : b < 256 := by rw [hb]; exact (s[k]'hlt).toNat_lt
      have hft := flat_take (nums s) k (by rw [nums_length]; exact hlt)
      have hb8 : (nums s).getD k 0 = b := by rw [hb]; exact at8_eq s k hlt
      rw [hb8] at hft
      have hpr := fun W => isPrintable_any b hbl W
      have HFT := Lib.hid hft
      have HBB := Lib.hid hb
      clear hft hb8
      by_cases hp : prB b = true
      · rw [hp] at hpr
        by_cases hq : b = 34 ∨ b = 92
        · have hqb : qb b = [92, b] := by unfold qb; rw [if_neg (by rw [hp]; decide), if_pos hq]
          obtain ⟨ao1, cap1, w1, hrun1, hB1⟩ := HB.out.append #[.int .u8 92] [92] rfl (by rw [← HN.out]; simp; omega)
          rw [← HN.out] at hrun1 hB1
          have hB1' : Bytes8 w w1 (.slice ao1 (n + 1) cap1) (34 :: ((nums s).take k).flatMap qb ++ [92]) := hB1
          have hlen1 : (34 :: ((nums s).take k).flatMap qb ++ [92]).length = n + 1 := by rw [List.length_append, ← HN.out]; rfl
          obtain ⟨ao', cap', w2, hrun2, hB2⟩ := hB1'.append #[.int .u8 (b : Int)] [b] rfl (by rw [hlen1]; simp; omega)
          rw [hlen1] at hrun2 hB2
          rw [hb] at hrun2 hpr
          have HPR := Lib.hid hpr
          have HQ := Lib.hid hqb
          have HRun1 := Lib.hid hrun1
          have HRun2 := Lib.hid hrun2
          have HB2 := Lib.hid hB2
          have hbv : (((s[k]'hlt).toNat : Int) == 34) = true ∨ ((((s[k]'hlt).toNat : Int) == 34) = false ∧ (((s[k]'hlt).toNat : Int) == 92) = true) := by
            rcases hq with h | h
            · left; rw [beq_iff_eq]; omega
            · right; exact ⟨by rw [beq_eq_false_iff_ne]; omega, by rw [beq_iff_eq]; omega⟩
          clear hrun1 hrun2 hB1 hB1' hlen1 hB2 hp hqb hpr hb hq
          rcases hbv with e1 | ⟨e1, e2⟩
          all_goals
            go_wp2_with (first
              | (at_builtin; refine Row.append_by rfl (.tmp 23) (.tmp 24) _ rfl _ _ rfl rfl HRun1.out ?_)
              | (at_builtin; refine Row.append_by rfl (.tmp 26) (.tmp 28) _ rfl _ _ rfl rfl HRun2.out ?_))
            go_roundg (s.size - (k + 1))
            case measure => have := hE.out; omega
            case rel =>
              refine ⟨k + 1, ao', _, cap', by show _ = _; omega, by omega, by go_num, rfl, by simp; omega, ?_, ?_⟩
              · show _ = _
                rw [HFT.out, HQ.out, HN.out]
                simp
              · show Bytes8 _ _ _ _
                rw [HFT.out, HQ.out]
                simpa using HB2.out
        · have e1 : ((b : Int) == 34) = false := by rw [beq_eq_false_iff_ne]; omega
          have e2 : ((b : Int) == 92) = false := by rw [beq_eq_false_iff_ne]; omega
          rw [hb] at e1 e2 hpr
          have HPR := Lib.hid hpr
          obtain ⟨ao', cap', w1, hrun, hB1⟩ := HB.out.append #[.int .u8 (b : Int)] [b] rfl (by rw [← HN.out]; simp; omega)
          rw [← HN.out] at hrun hB1
          have hqb : qb b = [b] := by unfold qb; rw [if_neg (by rw [hp]; decide), if_neg hq]
          have HQ := Lib.hid hqb
          have HP := Lib.hid hp
          rw [hb] at hrun
          have HRun := Lib.hid hrun
          have HB1 := Lib.hid hB1
          clear hrun hB1 hp hqb hpr hb hq
          go_wp2_with (first
            | (go_at_call 57; refine (HPR.out _).mono ?_; rintro e w2 ⟨rfl, rfl⟩)
            | (at_builtin; refine Row.append_by rfl (.tmp 26) (.tmp 28) _ rfl _ _ rfl rfl HRun.out ?_))
          go_roundg (s.size - (k + 1))
          case measure => have := hE.out; omega
          case rel =>
            refine ⟨k + 1, ao', _, cap', by show _ = _; omega, by omega, by go_num, rfl, by simp; omega, ?_, ?_⟩
            · show _ = _
              rw [HFT.out, HQ.out, HN.out]
              simp
            · show Bytes8 _ _ _ _
              rw [HFT.out, HQ.out]
              exact HB1.out
      · have hp2 : prB b = false := by simpa using hp
        rw [hp2] at hpr
        rw [hb] at hpr
        have e1 : (((s[k]'hlt).toNat : Int) == 34) = false := by
          rw [beq_eq_false_iff_ne]; intro h; unfold prB at hp; rw [hb] at hp; simp at hp; omega
        have e2 : (((s[k]'hlt).toNat : Int) == 92) = false := by
          rw [beq_eq_false_iff_ne]; intro h; unfold prB at hp; rw [hb] at hp; simp at hp; omega
        have hqb : qb b = [92, 120, hexd (b / 16), hexd (b % 16)] := by unfold qb; rw [if_pos hp2]
        have HPR := Lib.hid hpr
        have HQ := Lib.hid hqb
        clear hqb hpr hp hp2
        go_wp2_with (go_at_call 57; refine (HPR.out _).mono ?_; rintro e w2 ⟨rfl, rfl⟩)
        obtain ⟨hi, hhi⟩ : ∃ hi, hi = b / 16 := ⟨_, rfl⟩
        obtain ⟨lo, hlo⟩ : ∃ lo, lo = b % 16 := ⟨_, rfl⟩
        have hi16 : hi < 16 := by omega
        have lo16 : lo < 16 := by omega
        have hi16i : (hi : Int) < 16 := by omega
        have lo16i : (lo : Int) < 16 := by omega
        have hdiv : (((s[k]'hlt).toNat : Int)) / 16 = (hi : Int) := by rw [← HBB.out, hhi]; omega
        have hand : bits BinOp.and IntKind.u8 (((s[k]'hlt).toNat : Int)) 15 = (lo : Int) := by
          rw [← HBB.out, hlo, show (15 : Int) = ((15 : Nat) : Int) from rfl, u8_and_nat _ _ hbl (by decide), show (15 : Nat) = 2 ^ 4 - 1 from rfl, Nat.and_two_pow_sub_one_eq_mod]
        have r1 : ∀ h, (((hexLit[hi]'h).toNat : Nat) : Int) = (hexd hi : Int) := fun h => by rw [hexLit_at hi hi16]
        have r2 : ∀ h, (((hexLit[lo]'h).toNat : Nat) : Int) = (hexd lo : Int) := fun h => by rw [hexLit_at lo lo16]
        obtain ⟨ao', cap', w1, hrun, hB1⟩ := (HB.out.drewN 1).append #[.int .u8 92, .int .u8 120, .int .u8 (hexd hi : Int), .int .u8 (hexd lo : Int)] [92, 120, hexd hi, hexd lo] rfl (by rw [← HN.out]; simp; omega)
        rw [← HN.out] at hrun hB1
        have HRun := Lib.hid hrun
        have HB1 := Lib.hid hB1
        have HQ2 : Hid (qb b = [92, 120, hexd hi, hexd lo]) := by rw [hhi, hlo]; exact HQ.out
        clear hrun hB1 hhi hlo HQ
        go_region_law (refine Row.step_by rfl (.tmp 30) (.tmp 37) _ rfl _ _ rfl rfl HRun.out ?_)
        all_goals
          clear hdiv hand r1 r2
          go_wp2_with fail
          go_roundg (s.size - (k + 1))
          case measure => have := hE.out; omega
          case rel =>
            refine ⟨k + 1, ao', _, cap', by show _ = _; omega, by omega, by go_num, rfl, by simp; omega, ?_, ?_⟩
            · show _ = _
              rw [HFT.out, HQ2.out, HN.out]
              simp
            · show Bytes8 _ _ _ _
              rw [HFT.out, HQ2.out]
              exact HB1.out
    · obtain rfl : k = s.size := by omega
      have htake : (nums s).take s.size = nums s := List.take_of_length_le (by rw [nums_length]; omega)
      have hB := HB.out
      rw [htake] at hB
      have hN := HN.out
      rw [htake] at hN
      obtain ⟨ao', cap', w1, hrun, hB1⟩ := hB.append #[.int .u8 34] [34] rfl (by rw [← hN]; simp; omega)
      rw [← hN] at hrun hB1
      have htx := hB1.text
      have HRun := Lib.hid hrun
      have HTX := Lib.hid htx
      have HB1 := Lib.hid hB1
      clear hrun htx hB1 hB hN htake
      have htx2 : (convert 82 9 (.slice ao' (n + 1) cap')).run Try.prog w1 = .ok (.string (quoteS s)) w1 := HTX.out
      obtain ⟨T, hT⟩ : ∃ T, T = quoteS s := ⟨_, rfl⟩
      rw [← hT] at htx2
      have HT := Lib.hid hT
      clear hT
      go_wp2_with (at_builtin; refine Row.append_by rfl (.tmp 40) (.tmp 41) _ rfl _ _ rfl rfl HRun.out ?_)
      go_ret
      exact ⟨ret_str HT.out, HB1.out.below⟩
end Go.Proofs.Ytlolhbhanjhkbaa.Lab
