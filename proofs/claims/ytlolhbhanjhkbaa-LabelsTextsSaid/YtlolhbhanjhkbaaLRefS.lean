/-
  The text of a set in the document's answer: contract of Show. Own text.
-/
import Derived.Test.YtlolhbhanjhkbaaLRefQ
import Derived.Test.YtlolhbhanjhkbaaLRefV
import Derived.Test.YtlolhbhanjhkbaaLEnc
namespace Go.Proofs.Ytlolhbhanjhkbaa.Lab
open Go.RowKit Go Go.Proofs.Ytlolhbhanjhkbaa.Base Go.Shelf Go.Sort Go.Proofs.Ytlolhbhanjhkbaa.Enc

theorem joinN_snoc (ls : List (List Nat)) (x : List Nat) : joinN (ls ++ [x]) = if ls.length = 0 then x else joinN ls ++ 44 :: x := by
  cases ls with
  | nil => simp [joinN]
  | cons p r => simp [joinN]
/-- the text of the first k labels -/
def jS (l : List Lab) (k : Nat) : ByteArray := strN (joinN ((l.take k).map partN))
theorem jS_next (l : List Lab) (k : Nat) (hk : k < l.length) : jS l (k + 1) = (if k = 0 then jS l k else jS l k ++ ⟨#[44]⟩) ++ l[k]!.n ++ ⟨#[61]⟩ ++ quoteS l[k]!.v := by
  have h1 : (l.take (k + 1)).map partN = (l.take k).map partN ++ [partN l[k]!] := by rw [take_nth l k hk, List.map_append]; rfl
  have h2 : ((l.take k).map partN).length = k := by rw [List.length_map, List.length_take]; omega
  have h3 : strN (partN l[k]!) = l[k]!.n ++ ⟨#[61]⟩ ++ quoteS l[k]!.v := by unfold partN; rw [nums_strN]; rfl
  unfold jS
  rw [h1, joinN_snoc, h2]
  by_cases h0 : k = 0
  · rw [if_pos h0, if_pos h0, h3, h0]
    apply nums_inj
    simp only [nums_append, List.append_assoc]
    rfl
  · rw [if_neg h0, if_neg h0, (by simp : joinN ((l.take k).map partN) ++ 44 :: partN l[k]! = joinN ((l.take k).map partN) ++ [44] ++ partN l[k]!), strN_append, strN_append, h3]
    rw [← bytes_assoc, ← bytes_assoc]
    rfl
theorem jS_size {l : List Lab} (h : chk l = 0) (k : Nat) (hk : k ≤ l.length) : (jS l k).size ≤ 2400 := by
  obtain ⟨_, h8⟩ := chk_zero_len h
  have hlab := chk_labs h
  have := joinN_length ((l.take k).map partN) 291 (fun x hx => by
    obtain ⟨y, hy, rfl⟩ := List.mem_map.1 hx
    obtain ⟨f1, f2⟩ := labE_fit (hlab y (List.mem_of_mem_take hy))
    rw [partN, nums_length]
    exact part_size (fitN_size f1).2 (fitV_size f2).2)
  rw [List.length_map, List.length_take] at this
  unfold jS
  rw [strN_size]
  have : min k l.length ≤ 8 := by omega
  omega

set_option maxRecDepth 100000 in
set_option maxHeartbeats 4000000 in
theorem refShow_any (ao : Option Addr) (cap : Nat) (l : List Lab) (w : World) (hl : l.length < 4611686018427387904) (hsz : ∀ j, j < l.length → l[j]!.n.size < 4611686018427387904 ∧ l[j]!.v.size < 4611686018427387904) (hL : LabsAt w ao l) :
    Calls Try.prog 32 #[.slice ao l.length cap] w fun e w' => e = .returned (.string (showS l)) ∧ Below w.heap.size w w' := by
  have hv := refValid_any ao cap l w hl hsz hL
  cases hvb : validB l
  · have hs : showS l = ByteArray.empty := by unfold showS; rw [hvb]; rfl
    rw [hs]
    rw [hvb] at hv
    have HV := Lib.hid hv
    clear hv hL hl hsz hvb hs
    go_enter Try.func32, Try.ntmps32
    go_wp2_with (go_at_call 20; refine HV.out.mono ?_; rintro e w2 ⟨rfl, hb2⟩)
    go_ret
    exact ⟨rfl, hb2⟩
  · have hs : showS l = jS l l.length := by unfold showS jS; rw [if_pos hvb, List.take_length]; rfl
    rw [hs]
    rw [hvb] at hv
    have hc0 := valid_chk hvb
    obtain ⟨hl1, hl8⟩ := chk_zero_len hc0
    have hfs := fun k hk => fit_sizes (l := l) hc0 (k := k) hk
    have hes := fun k hk => jS_size hc0 k hk
    obtain ⟨T, hT⟩ : ∃ T, T = jS l l.length := ⟨_, rfl⟩
    rw [← hT]
    have HV := Lib.hid hv
    have HL := Lib.hid hL
    have HF := Lib.hid hfs
    have HN8 := Lib.hid hl8
    have HES := Lib.hid hes
    have HT := Lib.hid hT
    have H0 : Hid (jS l 0 = ByteArray.empty) := rfl
    clear hv hL hl hsz hc0 hl1 hfs hes hT hvb hs
    go_enter Try.func32, Try.ntmps32
    go_wp2_with (go_at_call 20; refine HV.out.mono ?_; rintro e w2 ⟨rfl, hb2⟩)
    go_loopg [4, 5] l.length (fun r q i wr => ∃ (k : Nat) (S : ByteArray), Hid (k + r = l.length) ∧ k ≤ l.length ∧ i = .int .i64 (k : Int) ∧ q = .string S ∧ Hid (S = jS l k) ∧ Below w.heap.size w wr)
    case atStart => exact ⟨0, ByteArray.empty, Nat.zero_add _, Nat.zero_le _, rfl, rfl, H0.out.symm, hb2⟩
    case round =>
      clear hl8
      obtain ⟨k, S, hE, hk, rfl, rfl, HS, hB⟩ := hrel
      have hsz := hB.size
      have hk2 := HN8.out
      by_cases hlt : k < l.length
      · have hLk := HL.out.below hB (Nat.le_refl _)
        obtain ⟨b, off, rfl, hb, q0, q1⟩ := hLk k hlt
        obtain ⟨f1, f2, f3⟩ := HF.out k hlt
        have hs1 := HES.out k (by omega)
        rw [← HS.out] at hs1
        have hen := jS_next l k hlt
        rw [← HS.out] at hen
        obtain ⟨x, hx⟩ : ∃ x, x = l[k]! := ⟨_, rfl⟩
        rw [← hx] at q0 q1 f1 f2 f3 hen
        obtain ⟨xn, xv⟩ := x
        simp only at q0 q1 f1 f2 f3 hen
        have ht1 := fun W => refQuote_any xv (by omega) W
        have z1 := quoteS_size xv
        generalize quoteS xv = A at ht1 z1 hen
        have g1 : (⟨#[44]⟩ : ByteArray).size = 1 := rfl
        have g2 : (⟨#[61]⟩ : ByteArray).size = 1 := rfl
        have q0b : ∀ W, Below wr.heap.size wr W → W.cell? ⟨b, off + k * 2, none⟩ = some (.string xn) := fun W hW => (hW.cell (p := ⟨b, off + k * 2, none⟩) hb).trans q0
        have Q0 := Lib.hid q0b
        have HB := Lib.hid hB
        have HT1 := Lib.hid ht1
        by_cases h0 : k = 0
        · rw [if_pos h0] at hen
          have HEN := Lib.hid hen
          have q0c : ∀ W, Below wr.heap.size wr W → W.cell? ⟨b, off, none⟩ = some (.string xn) := fun W hW => by
            have := q0b W hW
            rw [h0, Nat.zero_mul, Nat.add_zero] at this
            exact this
          have Q0c := Lib.hid q0c
          clear q0c
          subst h0
          clear hx hLk hen hB ht1 q0 q0b
          go_wp2_with (go_at_call 36; ((with_reducible refine (HT1.out _).mono ?_); rintro e w5 ⟨rfl, hb5⟩; have q5 := Q0c.out _ hb5))
          go_roundg (l.length - (0 + 1))
          case measure => have := hE.out; omega
          case rel => exact ⟨0 + 1, _, by show _ = _; omega, by omega, by first | rfl | go_num, rfl, HEN.out.symm, le_below HB.out hb5⟩
        · rw [if_neg h0] at hen
          have HEN := Lib.hid hen
          clear hx hLk hen hB ht1 q0 q0b
          go_wp2_with (go_at_call 36; ((with_reducible refine (HT1.out _).mono ?_); rintro e w5 ⟨rfl, hb5⟩; have q5 := Q0.out _ hb5))
          go_roundg (l.length - (k + 1))
          case measure => have := hE.out; omega
          case rel => exact ⟨k + 1, _, by show _ = _; omega, by omega, by go_num, rfl, HEN.out.symm, le_below HB.out hb5⟩
      · obtain rfl : k = l.length := by omega
        go_wp2_with fail
        go_ret
        exact ⟨by rw [HT.out, HS.out]; rfl, hB⟩
end Go.Proofs.Ytlolhbhanjhkbaa.Lab
