/-
  A text out of its quoted form: what a byte's quoted form is; contract of unquoteByte. Own text.
-/
import Derived.Test.YtlolhbhanjhkbaaLQuo
import Derived.Shelf.Small.Strs
import Derived.Deep.QuietTactic
import Derived.BigQuiet
namespace Go.Proofs
open Go.Shelf
shelf_lay Lays.n137 Nm 137 at Try as Try.idxByte
end Go.Proofs
namespace Go.Proofs.Ytlolhbhanjhkbaa.Lab
open Go.RowKit Go Go.Proofs.Ytlolhbhanjhkbaa.Base Go.Shelf Go.Sort

/-- a digit's value, or 16 -/
def hexv (x : Nat) : Nat := if 48 ≤ x ∧ x ≤ 57 then x - 48 else if 97 ≤ x ∧ x ≤ 102 then x - 87 else 16
theorem hexv_le (x : Nat) : hexv x ≤ 16 := by unfold hexv; split; omega; split <;> omega

/-- the quoted form at place i (no quotation mark stands there): how many bytes it has (0: there is none), which byte it is -/
def usz (s : ByteArray) (i : Nat) : Nat :=
  if prB (at8 s i) = false then 0 else if at8 s i ≠ 92 then 1
  else if i + 2 ≤ s.size ∧ (at8 s (i + 1) = 34 ∨ at8 s (i + 1) = 92) then 2
  else if i + 4 ≤ s.size ∧ at8 s (i + 1) = 120 ∧ hexv (at8 s (i + 2)) < 16 ∧ hexv (at8 s (i + 3)) < 16 ∧ prB (hexv (at8 s (i + 2)) * 16 + hexv (at8 s (i + 3))) = false then 4 else 0
def uch (s : ByteArray) (i : Nat) : Nat := if usz s i = 1 then at8 s i else if usz s i = 2 then at8 s (i + 1) else if usz s i = 4 then hexv (at8 s (i + 2)) * 16 + hexv (at8 s (i + 3)) else 0

theorem at8_out (s : ByteArray) (i : Nat) (h : s.size ≤ i) : at8 s i = 0 := by
  unfold at8
  rw [List.getD, List.getElem?_eq_none (by rw [nums_length]; exact h)]
  rfl
theorem at8_extract (s : ByteArray) (i j : Nat) : at8 (s.extract i s.size) j = at8 s (i + j) := by
  unfold at8
  rw [nums_extract, List.getD, List.getD]
  by_cases h : i + j < s.size
  · rw [List.getElem?_take, if_pos (by omega), List.getElem?_drop]
  · rw [List.getElem?_eq_none (l := nums s) (by rw [nums_length]; omega), List.getElem?_eq_none (by simp [nums_length]; omega)]
theorem size_tail (s : ByteArray) (i : Nat) : (s.extract i s.size).size = s.size - i := by rw [ByteArray.size_extract]; omega
theorem usz_tail (s : ByteArray) (i : Nat) (h : i ≤ s.size) : usz (s.extract i s.size) 0 = usz s i ∧ uch (s.extract i s.size) 0 = uch s i := by
  have h1 : usz (s.extract i s.size) 0 = usz s i := by
    unfold usz
    have e2 : (2 ≤ s.size - i) ↔ (i + 2 ≤ s.size) := by omega
    have e4 : (4 ≤ s.size - i) ↔ (i + 4 ≤ s.size) := by omega
    simp only [at8_extract, size_tail, Nat.zero_add, Nat.add_zero, e2, e4]
  refine ⟨h1, ?_⟩
  unfold uch
  rw [h1]
  simp only [at8_extract, Nat.zero_add, Nat.add_zero]

def hexI (x : Nat) : Int := if hexv x < 16 then (hexv x : Int) else -1
theorem hexI_eq (x : Nat) (h : x < 256) : Lib.indexByte hexLit.data.toList (x : Int).toNat.toUInt8 = hexI x := by
  have : ∀ c : Fin 256, Lib.indexByte hexLit.data.toList (c.1 : Int).toNat.toUInt8 = hexI c.1 := by decide +kernel
  exact this ⟨x, h⟩
theorem idxByte_any (x : Nat) (h : x < 256) (w : World) :
    Calls Try.prog 73 #[.string hexLit, .int .u8 (x : Int)] w fun e w' => e = .returned (.int .i64 (hexI x)) ∧ w' = w := by
  have hc := Any.strings_IndexByte Try.idxByte hexLit (x : Int) w
  change Calls Try.prog 73 _ _ _ at hc
  rw [hexI_eq x h] at hc
  exact hc

theorem hex_or (h l : Nat) (hh : h < 16) (hl : l < 16) : bits BinOp.or IntKind.i64 ((h : Int) * 16) (l : Int) % 256 = ((h * 16 + l : Nat) : Int) := by
  have : ∀ a b : Fin 16, bits BinOp.or IntKind.i64 ((a.1 : Int) * 16) (b.1 : Int) % 256 = ((a.1 * 16 + b.1 : Nat) : Int) := by decide +kernel
  exact this ⟨h, hh⟩ ⟨l, hl⟩

inductive Uq (s : ByteArray) : Nat → Nat → Prop
  | no (h : prB (at8 s 0) = false) : Uq s 0 0
  | one (h : prB (at8 s 0) = true) (h2 : at8 s 0 ≠ 92) : Uq s 1 (at8 s 0)
  | two (h2 : at8 s 0 = 92) (h3 : 2 ≤ s.size) (h4 : at8 s 1 = 34 ∨ at8 s 1 = 92) : Uq s 2 (at8 s 1)
  | end1 (h2 : at8 s 0 = 92) (h3 : s.size = 1) : Uq s 0 0
  | end2 (h2 : at8 s 0 = 92) (h3 : 2 ≤ s.size) (h4 : at8 s 1 ≠ 34) (h5 : at8 s 1 ≠ 92) (h6 : ¬ 4 ≤ s.size) : Uq s 0 0
  | end3 (h2 : at8 s 0 = 92) (h6 : 4 ≤ s.size) (h4 : at8 s 1 ≠ 34) (h5 : at8 s 1 ≠ 92) (h7 : at8 s 1 ≠ 120) : Uq s 0 0
  | bad1 (h2 : at8 s 0 = 92) (h6 : 4 ≤ s.size) (h7 : at8 s 1 = 120) (h8 : hexI (at8 s 2) = -1) : Uq s 0 0
  | bad2 (h2 : at8 s 0 = 92) (h6 : 4 ≤ s.size) (h7 : at8 s 1 = 120) (h : Nat) (hh : h < 16) (h8 : hexI (at8 s 2) = (h : Int)) (h9 : hexI (at8 s 3) = -1) : Uq s 0 0
  | bad3 (h2 : at8 s 0 = 92) (h6 : 4 ≤ s.size) (h7 : at8 s 1 = 120) (h : Nat) (hh : h < 16) (h8 : hexI (at8 s 2) = (h : Int)) (l : Nat) (hl : l < 16) (h9 : hexI (at8 s 3) = (l : Int)) (h10 : prB (h * 16 + l) = true) : Uq s 0 0
  | four (h2 : at8 s 0 = 92) (h6 : 4 ≤ s.size) (h7 : at8 s 1 = 120) (h : Nat) (hh : h < 16) (h8 : hexI (at8 s 2) = (h : Int)) (l : Nat) (hl : l < 16) (h9 : hexI (at8 s 3) = (l : Int)) (h10 : prB (h * 16 + l) = false) : Uq s 4 (h * 16 + l)

theorem hexI_cases (x : Nat) : (hexv x = 16 ∧ hexI x = -1) ∨ (hexv x < 16 ∧ hexI x = (hexv x : Int)) := by
  unfold hexI
  have := hexv_le x
  by_cases h : hexv x < 16
  · rw [if_pos h]; exact .inr ⟨h, rfl⟩
  · rw [if_neg h]; exact .inl ⟨by omega, rfl⟩

theorem uq_of (s : ByteArray) (h0 : 0 < s.size) : Uq s (usz s 0) (uch s 0) := by
  have key : ∀ n, usz s 0 = n → Uq s n (if n = 1 then at8 s 0 else if n = 2 then at8 s (0 + 1) else if n = 4 then hexv (at8 s (0 + 2)) * 16 + hexv (at8 s (0 + 3)) else 0) := by
    intro n hn
    unfold usz at hn
    simp only [Nat.zero_add] at hn ⊢
    by_cases a : prB (at8 s 0) = false
    · rw [if_pos a] at hn; subst hn; exact .no a
    · rw [if_neg a] at hn
      have a' : prB (at8 s 0) = true := by simpa using a
      by_cases b : at8 s 0 = 92
      · rw [if_neg (fun k => k b)] at hn
        by_cases c : 2 ≤ s.size ∧ (at8 s 1 = 34 ∨ at8 s 1 = 92)
        · rw [if_pos c] at hn; subst hn; exact .two b c.1 c.2
        · rw [if_neg c] at hn
          by_cases d : 4 ≤ s.size
          · have c1 : at8 s 1 ≠ 34 := fun e => c ⟨by omega, .inl e⟩
            have c2 : at8 s 1 ≠ 92 := fun e => c ⟨by omega, .inr e⟩
            by_cases f : at8 s 1 = 120
            · rcases hexI_cases (at8 s 2) with ⟨x1, x2⟩ | ⟨x1, x2⟩
              · rw [if_neg (fun k => by omega)] at hn; subst hn; exact .bad1 b d f x2
              · rcases hexI_cases (at8 s 3) with ⟨y1, y2⟩ | ⟨y1, y2⟩
                · rw [if_neg (fun k => by omega)] at hn; subst hn; exact .bad2 b d f _ x1 x2 y2
                · by_cases g : prB (hexv (at8 s 2) * 16 + hexv (at8 s 3)) = false
                  · rw [if_pos ⟨d, f, x1, y1, g⟩] at hn; subst hn; exact .four b d f _ x1 x2 _ y1 y2 g
                  · rw [if_neg (fun k => g k.2.2.2.2)] at hn; subst hn; exact .bad3 b d f _ x1 x2 _ y1 y2 (by simpa using g)
            · rw [if_neg (fun k => f k.2.1)] at hn; subst hn; exact .end3 b d c1 c2 f
          · rw [if_neg (fun k => d k.1)] at hn; subst hn
            by_cases e : s.size = 1
            · exact .end1 b e
            · exact .end2 b (by omega) (fun k => c ⟨by omega, .inl k⟩) (fun k => c ⟨by omega, .inr k⟩) d
      · rw [if_pos b] at hn; subst hn; exact .one a' b
  exact key _ rfl

set_option maxRecDepth 100000 in
set_option maxHeartbeats 4000000 in
theorem unquoteByte_any (s : ByteArray) (h0 : 0 < s.size) (w : World) :
    Calls Try.prog 55 #[.string s] w fun e w' => e = .returned (.tuple #[.int .u8 (uch s 0 : Int), .int .i64 (usz s 0 : Int)]) ∧ ∃ n, w' = w.drewN n := by
  have hU := uq_of s h0
  generalize usz s 0 = Z at *
  generalize uch s 0 = C at *
  have hpr := fun (c : Nat) (hc : c < 256) (W : World) => isPrintable_any c hc W
  have HPR := Lib.hid hpr
  have h0i : (0 : Int) < (s.size : Int) := by omega
  have b0 := at8_eq s 0 h0
  have l0 := at8_lt s 0
  clear hpr
  cases hU with
  | no h =>
    have hp := fun W => HPR.out _ l0 W
    rw [h] at hp
    rw [b0] at hp
    have HP := Lib.hid hp
    clear hp b0 h
    go_enter Try.func55, Try.ntmps55
    go_wp2_with (go_at_call 57; ((with_reducible refine (HP.out _).mono ?_); rintro e w2 ⟨rfl, rfl⟩))
    go_ret2
    exact ⟨rfl, 0, rfl⟩
  | one h h2 =>
    have hp := fun W => HPR.out _ l0 W
    rw [h] at hp
    rw [b0] at hp
    have e1 : ((s[0].toNat : Int) != 92) = true := by rw [bne_iff_ne]; omega
    rw [b0]
    have HP := Lib.hid hp
    clear hp b0 h h2
    go_enter Try.func55, Try.ntmps55
    go_wp2_with (go_at_call 57; ((with_reducible refine (HP.out _).mono ?_); rintro e w2 ⟨rfl, rfl⟩))
    go_ret2
    exact ⟨rfl, 0, rfl⟩
  | two h2 h3 h4 =>
    have p92 : prB 92 = true := by decide
    have hp := fun W => HPR.out 92 (by decide) W
    rw [p92] at hp
    have b92 : (s[0].toNat : Int) = ((92 : Nat) : Int) := by rw [← b0, h2]
    rw [← b92] at hp
    have e1 : ((s[0].toNat : Int) != 92) = false := by rw [b92]; rfl
    have HP := Lib.hid hp
    have i1 : (1 : Int) < (s.size : Int) := by omega
    have b1 := at8_eq s 1 (by omega)
    have h3i : (2 : Int) ≤ (s.size : Int) := by omega
    have hc : ((s[1].toNat : Int) == 34) = true ∨ (((s[1].toNat : Int) == 34) = false ∧ ((s[1].toNat : Int) == 92) = true) := by
      rcases h4 with h | h
      · left; rw [beq_iff_eq]; omega
      · right; exact ⟨by rw [beq_eq_false_iff_ne]; omega, by rw [beq_iff_eq]; omega⟩
    rw [b1]
    clear hp b0 b92 h2 h4 b1 p92
    rcases hc with c1 | ⟨c1, c2⟩
    all_goals
      go_enter Try.func55, Try.ntmps55
      go_wp2_with (go_at_call 57; ((with_reducible refine (HP.out _).mono ?_); rintro e w2 ⟨rfl, rfl⟩))
      go_ret2
      exact ⟨rfl, 0, rfl⟩
  | end1 h2 h3 =>
    have p92 : prB 92 = true := by decide
    have hp := fun W => HPR.out 92 (by decide) W
    rw [p92] at hp
    have b92 : (s[0].toNat : Int) = ((92 : Nat) : Int) := by rw [← b0, h2]
    rw [← b92] at hp
    have e1 : ((s[0].toNat : Int) != 92) = false := by rw [b92]; rfl
    have HP := Lib.hid hp
    have n2 : ¬ (2 : Int) ≤ (s.size : Int) := by omega
    have n4 : ¬ (4 : Int) ≤ (s.size : Int) := by omega
    clear hp b0 b92 h2 h3 p92
    go_enter Try.func55, Try.ntmps55
    go_wp2_with (go_at_call 57; ((with_reducible refine (HP.out _).mono ?_); rintro e w2 ⟨rfl, rfl⟩))
    go_ret2
    exact ⟨rfl, 0, rfl⟩
  | end2 h2 h3 h4 h5 h6 =>
    have p92 : prB 92 = true := by decide
    have hp := fun W => HPR.out 92 (by decide) W
    rw [p92] at hp
    have b92 : (s[0].toNat : Int) = ((92 : Nat) : Int) := by rw [← b0, h2]
    rw [← b92] at hp
    have e1 : ((s[0].toNat : Int) != 92) = false := by rw [b92]; rfl
    have HP := Lib.hid hp
    have i1 : (1 : Int) < (s.size : Int) := by omega
    have b1 := at8_eq s 1 (by omega)
    have h3i : (2 : Int) ≤ (s.size : Int) := by omega
    have n4 : ¬ (4 : Int) ≤ (s.size : Int) := by omega
    have c1 : ((s[1].toNat : Int) == 34) = false := by rw [beq_eq_false_iff_ne]; omega
    have c2 : ((s[1].toNat : Int) == 92) = false := by rw [beq_eq_false_iff_ne]; omega
    clear hp b0 b92 h2 b1 p92 h4 h5
    go_enter Try.func55, Try.ntmps55
    go_wp2_with (go_at_call 57; ((with_reducible refine (HP.out _).mono ?_); rintro e w2 ⟨rfl, rfl⟩))
    go_ret2
    exact ⟨rfl, 0, rfl⟩
  | end3 h2 h6 h4 h5 h7 =>
    have p92 : prB 92 = true := by decide
    have hp := fun W => HPR.out 92 (by decide) W
    rw [p92] at hp
    have b92 : (s[0].toNat : Int) = ((92 : Nat) : Int) := by rw [← b0, h2]
    rw [← b92] at hp
    have e1 : ((s[0].toNat : Int) != 92) = false := by rw [b92]; rfl
    have HP := Lib.hid hp
    have i1 : (1 : Int) < (s.size : Int) := by omega
    have b1 := at8_eq s 1 (by omega)
    have h3i : (2 : Int) ≤ (s.size : Int) := by omega
    have n4 : (4 : Int) ≤ (s.size : Int) := by omega
    have c1 : ((s[1].toNat : Int) == 34) = false := by rw [beq_eq_false_iff_ne]; omega
    have c2 : ((s[1].toNat : Int) == 92) = false := by rw [beq_eq_false_iff_ne]; omega
    have c3 : ((s[1].toNat : Int) == 120) = false := by rw [beq_eq_false_iff_ne]; omega
    clear hp b0 b92 h2 b1 p92 h4 h5 h7
    go_enter Try.func55, Try.ntmps55
    go_wp2_with (go_at_call 57; ((with_reducible refine (HP.out _).mono ?_); rintro e w2 ⟨rfl, rfl⟩))
    go_ret2
    exact ⟨rfl, 0, rfl⟩
  | bad1 h2 h6 h7 h8 =>
    have p92 : prB 92 = true := by decide
    have hp := fun W => HPR.out 92 (by decide) W
    rw [p92] at hp
    have b92 : (s[0].toNat : Int) = ((92 : Nat) : Int) := by rw [← b0, h2]
    rw [← b92] at hp
    have e1 : ((s[0].toNat : Int) != 92) = false := by rw [b92]; rfl
    have HP := Lib.hid hp
    have i1 : (1 : Int) < (s.size : Int) := by omega
    have i2 : (2 : Int) < (s.size : Int) := by omega
    have i3 : (3 : Int) < (s.size : Int) := by omega
    have b1 := at8_eq s 1 (by omega)
    have b2 := at8_eq s 2 (by omega)
    have b3 := at8_eq s 3 (by omega)
    have l2 := at8_lt s 2
    have l3 := at8_lt s 3
    have h3i : (2 : Int) ≤ (s.size : Int) := by omega
    have n4 : (4 : Int) ≤ (s.size : Int) := by omega
    have c1 : ((s[1].toNat : Int) == 34) = false := by rw [beq_eq_false_iff_ne]; omega
    have c2 : ((s[1].toNat : Int) == 92) = false := by rw [beq_eq_false_iff_ne]; omega
    have c3 : ((s[1].toNat : Int) == 120) = true := by rw [beq_iff_eq]; omega
    have q2 := fun W => idxByte_any (at8 s 2) l2 W
    have q3 := fun W => idxByte_any (at8 s 3) l3 W
    rw [h8] at q2
    rw [b2] at q2
    rw [b3] at q3
    generalize hexI s[3].toNat = r3 at q3
    have Q2 := Lib.hid q2
    have Q3 := Lib.hid q3
    clear hp b0 b92 h2 b1 p92 h7 b2 b3 l2 l3 q2 q3 h8
    go_enter Try.func55, Try.ntmps55
    go_wp2_with (go_at_call 57; ((with_reducible refine (HP.out _).mono ?_); rintro e w2 ⟨rfl, rfl⟩))
    go_quiet (first | (go_at_call 73; with_reducible exact Calls.quiet_of_same (Q2.out _)) | (go_at_call 73; with_reducible exact Calls.quiet_of_same (Q3.out _)))
    go_wp2_with (go_at_call 57; ((with_reducible refine (HP.out _).mono ?_); rintro e w2 ⟨rfl, rfl⟩))
    go_ret2
    exact ⟨rfl, _, rfl⟩
  | bad2 h2 h6 h7 h hh h8 h9 =>
    have p92 : prB 92 = true := by decide
    have hp := fun W => HPR.out 92 (by decide) W
    rw [p92] at hp
    have b92 : (s[0].toNat : Int) = ((92 : Nat) : Int) := by rw [← b0, h2]
    rw [← b92] at hp
    have e1 : ((s[0].toNat : Int) != 92) = false := by rw [b92]; rfl
    have HP := Lib.hid hp
    have i1 : (1 : Int) < (s.size : Int) := by omega
    have i2 : (2 : Int) < (s.size : Int) := by omega
    have i3 : (3 : Int) < (s.size : Int) := by omega
    have b1 := at8_eq s 1 (by omega)
    have b2 := at8_eq s 2 (by omega)
    have b3 := at8_eq s 3 (by omega)
    have l2 := at8_lt s 2
    have l3 := at8_lt s 3
    have h3i : (2 : Int) ≤ (s.size : Int) := by omega
    have n4 : (4 : Int) ≤ (s.size : Int) := by omega
    have c1 : ((s[1].toNat : Int) == 34) = false := by rw [beq_eq_false_iff_ne]; omega
    have c2 : ((s[1].toNat : Int) == 92) = false := by rw [beq_eq_false_iff_ne]; omega
    have c3 : ((s[1].toNat : Int) == 120) = true := by rw [beq_iff_eq]; omega
    have q2 := fun W => idxByte_any (at8 s 2) l2 W
    have q3 := fun W => idxByte_any (at8 s 3) l3 W
    rw [h8] at q2
    rw [h9] at q3
    rw [b2] at q2
    rw [b3] at q3
    have Q2 := Lib.hid q2
    have Q3 := Lib.hid q3
    clear hp b0 b92 h2 b1 p92 h7 b2 b3 l2 l3 q2 q3 h8 h9
    go_enter Try.func55, Try.ntmps55
    go_wp2_with (go_at_call 57; ((with_reducible refine (HP.out _).mono ?_); rintro e w2 ⟨rfl, rfl⟩))
    go_quiet (first | (go_at_call 73; with_reducible exact Calls.quiet_of_same (Q2.out _)) | (go_at_call 73; with_reducible exact Calls.quiet_of_same (Q3.out _)))
    go_wp2_with (go_at_call 57; ((with_reducible refine (HP.out _).mono ?_); rintro e w2 ⟨rfl, rfl⟩))
    go_ret2
    exact ⟨rfl, _, rfl⟩
  | bad3 h2 h6 h7 h hh h8 l hl h9 h10 =>
    have p92 : prB 92 = true := by decide
    have hp := fun W => HPR.out 92 (by decide) W
    rw [p92] at hp
    have b92 : (s[0].toNat : Int) = ((92 : Nat) : Int) := by rw [← b0, h2]
    rw [← b92] at hp
    have e1 : ((s[0].toNat : Int) != 92) = false := by rw [b92]; rfl
    have HP := Lib.hid hp
    have i1 : (1 : Int) < (s.size : Int) := by omega
    have i2 : (2 : Int) < (s.size : Int) := by omega
    have i3 : (3 : Int) < (s.size : Int) := by omega
    have b1 := at8_eq s 1 (by omega)
    have b2 := at8_eq s 2 (by omega)
    have b3 := at8_eq s 3 (by omega)
    have l2 := at8_lt s 2
    have l3 := at8_lt s 3
    have h3i : (2 : Int) ≤ (s.size : Int) := by omega
    have n4 : (4 : Int) ≤ (s.size : Int) := by omega
    have c1 : ((s[1].toNat : Int) == 34) = false := by rw [beq_eq_false_iff_ne]; omega
    have c2 : ((s[1].toNat : Int) == 92) = false := by rw [beq_eq_false_iff_ne]; omega
    have c3 : ((s[1].toNat : Int) == 120) = true := by rw [beq_iff_eq]; omega
    have q2 := fun W => idxByte_any (at8 s 2) l2 W
    have q3 := fun W => idxByte_any (at8 s 3) l3 W
    rw [h8] at q2
    rw [h9] at q3
    rw [b2] at q2
    rw [b3] at q3
    have hor := hex_or h l hh hl
    obtain ⟨c, hc⟩ : ∃ c, c = h * 16 + l := ⟨_, rfl⟩
    rw [← hc] at hor
    have hp2 := fun W => HPR.out c (by omega) W
    rw [← hc] at h10
    rw [h10] at hp2
    have HP2 := Lib.hid hp2
    have HC := Lib.hid hc
    have Q2 := Lib.hid q2
    have Q3 := Lib.hid q3
    clear hp2 hc h10 hp b0 b92 h2 b1 p92 h7 b2 b3 l2 l3 q2 q3 h8 h9
    go_enter Try.func55, Try.ntmps55
    go_wp2_with (go_at_call 57; ((with_reducible refine (HP.out _).mono ?_); rintro e w2 ⟨rfl, rfl⟩))
    go_quiet (first | (go_at_call 73; with_reducible exact Calls.quiet_of_same (Q2.out _)) | (go_at_call 73; with_reducible exact Calls.quiet_of_same (Q3.out _)))
    go_wp2_with (first | (go_at_call 57; ((with_reducible refine (HP.out _).mono ?_); rintro e w2 ⟨rfl, rfl⟩)) | (go_at_call 57; ((with_reducible refine (HP2.out _).mono ?_); rintro e w2 ⟨rfl, rfl⟩)))
    go_ret2
    exact ⟨rfl, _, rfl⟩
  | four h2 h6 h7 h hh h8 l hl h9 h10 =>
    have p92 : prB 92 = true := by decide
    have hp := fun W => HPR.out 92 (by decide) W
    rw [p92] at hp
    have b92 : (s[0].toNat : Int) = ((92 : Nat) : Int) := by rw [← b0, h2]
    rw [← b92] at hp
    have e1 : ((s[0].toNat : Int) != 92) = false := by rw [b92]; rfl
    have HP := Lib.hid hp
    have i1 : (1 : Int) < (s.size : Int) := by omega
    have i2 : (2 : Int) < (s.size : Int) := by omega
    have i3 : (3 : Int) < (s.size : Int) := by omega
    have b1 := at8_eq s 1 (by omega)
    have b2 := at8_eq s 2 (by omega)
    have b3 := at8_eq s 3 (by omega)
    have l2 := at8_lt s 2
    have l3 := at8_lt s 3
    have h3i : (2 : Int) ≤ (s.size : Int) := by omega
    have n4 : (4 : Int) ≤ (s.size : Int) := by omega
    have c1 : ((s[1].toNat : Int) == 34) = false := by rw [beq_eq_false_iff_ne]; omega
    have c2 : ((s[1].toNat : Int) == 92) = false := by rw [beq_eq_false_iff_ne]; omega
    have c3 : ((s[1].toNat : Int) == 120) = true := by rw [beq_iff_eq]; omega
    have q2 := fun W => idxByte_any (at8 s 2) l2 W
    have q3 := fun W => idxByte_any (at8 s 3) l3 W
    rw [h8] at q2
    rw [h9] at q3
    rw [b2] at q2
    rw [b3] at q3
    have hor := hex_or h l hh hl
    obtain ⟨c, hc⟩ : ∃ c, c = h * 16 + l := ⟨_, rfl⟩
    rw [← hc] at hor ⊢
    have hp2 := fun W => HPR.out c (by omega) W
    rw [← hc] at h10
    rw [h10] at hp2
    have HP2 := Lib.hid hp2
    have HC := Lib.hid hc
    have Q2 := Lib.hid q2
    have Q3 := Lib.hid q3
    clear hp2 hc h10 hp b0 b92 h2 b1 p92 h7 b2 b3 l2 l3 q2 q3 h8 h9
    go_enter Try.func55, Try.ntmps55
    go_wp2_with (go_at_call 57; ((with_reducible refine (HP.out _).mono ?_); rintro e w2 ⟨rfl, rfl⟩))
    go_quiet (first | (go_at_call 73; with_reducible exact Calls.quiet_of_same (Q2.out _)) | (go_at_call 73; with_reducible exact Calls.quiet_of_same (Q3.out _)))
    go_wp2_with (first | (go_at_call 57; ((with_reducible refine (HP.out _).mono ?_); rintro e w2 ⟨rfl, rfl⟩)) | (go_at_call 57; ((with_reducible refine (HP2.out _).mono ?_); rintro e w2 ⟨rfl, rfl⟩)))
    go_ret2
    exact ⟨rfl, _, rfl⟩
end Go.Proofs.Ytlolhbhanjhkbaa.Lab
