/-
  The bytes of a set: contracts of Encode, of the program and of the document's answer. Own text.
-/
import Derived.Test.YtcpkogboaniehaaMText
import Derived.Test.YtcpkogboaniehaaLAlike
import Derived.Test.YtcpkogboaniehaaLRefV
import Derived.Lib.QuietBelow
namespace Go.Proofs.Ytcpkogboaniehaa.Lab
open Go.RowKit Go Go.Proofs.Ytcpkogboaniehaa.Base Go.Shelf Go.Sort Go.Proofs.Ytcpkogboaniehaa.Enc

/-- the bytes of the first k labels, behind the number -/
def encK (l : List Lab) : Nat → ByteArray
  | 0 => uintS l.length
  | k + 1 => encK l k ++ (textS l[k]!.n ++ textS l[k]!.v)
def encS (l : List Lab) : ByteArray := if setE l = 0 then encK l l.length else ByteArray.empty

theorem bytes_assoc (a b c : ByteArray) : a ++ b ++ c = a ++ (b ++ c) := by
  apply nums_inj
  simp only [nums_append, List.append_assoc]
theorem textS_size (s : ByteArray) : s.size + 1 ≤ (textS s).size ∧ (textS s).size ≤ s.size + 10 := by
  have := uintS_size s.size
  unfold textS
  rw [ByteArray.size_append]
  omega
theorem encK_size (l : List Lab) (hf : ∀ k, k < l.length → l[k]!.n.size ≤ 32 ∧ l[k]!.v.size ≤ 64) : ∀ k, k ≤ l.length → (encK l k).size ≤ 10 + 116 * k
  | 0, _ => by have := uintS_size l.length; unfold encK; omega
  | k + 1, hk => by
    have h0 := encK_size l hf k (by omega)
    obtain ⟨h1, h2⟩ := hf k (by omega)
    have := textS_size l[k]!.n
    have := textS_size l[k]!.v
    rw [encK, ByteArray.size_append, ByteArray.size_append]
    omega

theorem set_chk {l : List Lab} (h : setE l = 0) : chk l = 0 := by
  unfold setE at h
  split at h
  · rename_i h1; exact absurd h h1
  · rename_i h1; omega

set_option maxRecDepth 100000 in
set_option maxHeartbeats 4000000 in
theorem encode_any (ao : Option Addr) (cap : Nat) (l : List Lab) (w : World) (hl : l.length < 4611686018427387904) (hcap : l.length ≤ cap) (hL : LabsAt w ao l) :
    Calls Try.prog 36 #[.slice ao l.length cap] w fun e w' => e = .returned (.tuple #[.string (encS l), .int .i64 (setE l : Int)]) ∧ Below w.heap.size w w' := by
  have hv := checkSet_any ao cap l w hl hcap hL
  unfold encS
  by_cases h0 : setE l = 0
  · rw [if_pos h0]
    rw [h0] at hv ⊢
    have hc0 := set_chk h0
    obtain ⟨hl1, hl8⟩ := chk_zero_len hc0
    have hfs := fun k hk => fit_sizes (l := l) hc0 (k := k) hk
    have hes := encK_size l (fun k hk => ⟨(hfs k hk).1, (hfs k hk).2.2⟩)
    have hu := fun W => uint_any l.length (by omega) W
    obtain ⟨T, hT⟩ : ∃ T, T = encK l l.length := ⟨_, rfl⟩
    rw [← hT]
    have HV := Lib.hid hv
    have HL := Lib.hid hL
    have HF := Lib.hid hfs
    have HN8 := Lib.hid hl8
    have HES := Lib.hid hes
    have HT := Lib.hid hT
    have H0 : Hid (encK l 0 = uintS l.length) := rfl
    generalize uintS l.length = U at hu H0
    have HU := Lib.hid hu
    clear hv hL hl hcap h0 hc0 hl1 hfs hes hT hu
    go_enter Try.func36, Try.ntmps36
    go_wp2_with (first
      | (go_at_call 46; refine HV.out.mono ?_; rintro e w1 ⟨rfl, hb1⟩)
      | (go_at_call 37; refine (HU.out _).mono ?_; rintro e w2 ⟨rfl, hb2⟩))
    go_loopg [5, 19] l.length (fun r q i wr => ∃ (k : Nat) (S : ByteArray), Hid (k + r = l.length) ∧ k ≤ l.length ∧ i = .int .i64 (k : Int) ∧ q = .string S ∧ Hid (S = encK l k) ∧ Below w.heap.size w wr)
    case atStart => exact ⟨0, U, Nat.zero_add _, Nat.zero_le _, rfl, rfl, H0.out.symm, le_below hb1 hb2⟩
    case round =>
      clear hl8
      obtain ⟨k, S, hE, hk, rfl, rfl, HS, hB⟩ := hrel
      have hsz := hB.size
      have hk2 := HN8.out
      by_cases hlt : k < l.length
      · have hLk := HL.out.below hB (Nat.le_refl _)
        obtain ⟨b, off, rfl, hb, q0, q1⟩ := hLk k hlt
        obtain ⟨f1, f2, f3⟩ := HF.out k hlt
        have hs1 := HES.out k (by omega)
        rw [← HS.out] at hs1
        have hen : encK l (k + 1) = encK l k ++ (textS l[k]!.n ++ textS l[k]!.v) := rfl
        rw [← HS.out] at hen
        obtain ⟨x, hx⟩ : ∃ x, x = l[k]! := ⟨_, rfl⟩
        rw [← hx] at q0 q1 f1 f2 f3 hen
        obtain ⟨xn, xv⟩ := x
        simp only at q0 q1 f1 f2 f3 hen
        have ht1 := fun W => text_any xn (by omega) W
        have ht2 := fun W => text_any xv (by omega) W
        have z1 := textS_size xn
        have z2 := textS_size xv
        generalize textS xn = A at ht1 z1 hen
        generalize textS xv = B at ht2 z2 hen
        have HEN := Lib.hid hen
        have g1 : ¬ 9223372036854775807 < A.size + B.size := by omega
        have g2 : ¬ 9223372036854775807 < S.size + (A.size + B.size) := by omega
        have HB := Lib.hid hB
        clear hx hLk hen hB
        go_wp2_with fail
        obtain ⟨wa, hwa⟩ : ∃ wa, wa = wr.alloc (.cells #[.string xn, .string xv] 69) := ⟨_, rfl⟩
        rw [← hwa]
        have hba : Below wr.heap.size wr wa := by rw [hwa]; exact below_alloc _ _
        have c0 : wa.cell? ⟨wr.heap.size, 0, none⟩ = some (.string xn) := by rw [hwa]; exact cell_new rfl rfl
        have c1 : wa.cell? ⟨wr.heap.size, 1, none⟩ = some (.string xv) := by rw [hwa]; exact cell_new rfl rfl
        have d0 : ∀ d os, (grow (redrawn wa d) os).cell? ⟨wr.heap.size, 0, none⟩ = some (.string xn) := fun d os => cell_regrown c0 d os
        have d1 : ∀ d os, (grow (redrawn wa d) os).cell? ⟨wr.heap.size, 1, none⟩ = some (.string xv) := fun d os => cell_regrown c1 d os
        have hz : wr.heap.size < wa.heap.size := by rw [hwa, World.size_alloc]; omega
        have HBA := Lib.hid hba
        have cA : ∀ d os, Calls Try.prog 48 #[.string xn] (grow (redrawn wa d) os) fun e w'' => e = .returned (.string A) ∧ ∃ p : Regrown, w'' = grow (redrawn wa p.d) p.os := fun d os => Calls.regrown_of (ht1 _)
        have cB : ∀ d os, Calls Try.prog 48 #[.string xv] (grow (redrawn wa d) os) fun e w'' => e = .returned (.string B) ∧ ∃ p : Regrown, w'' = grow (redrawn wa p.d) p.os := fun d os => Calls.regrown_of (ht2 _)
        have CA := Lib.hid cA
        have CB := Lib.hid cB
        clear cA cB ht1 ht2 hwa hba q0 q1 c0 c1
        refine wp_region_quiet_below (by kernel_rfl) (by kernel_rfl) ?_
        repeat (quiet_step (first | (with_reducible exact CA.out _ _) | (with_reducible exact CB.out _ _)))
        refine wpQuiet_nil ?_
        intro _ hw'
        obtain ⟨⟨dq, osq⟩, hw''⟩ := hw'
        subst hw''
        clear d0 d1
        go_wp2_with fail
        go_roundg (l.length - (k + 1))
        case measure => have := hE.out; omega
        case rel => exact ⟨k + 1, _, by show _ = _; omega, by omega, by go_num, rfl, HEN.out.symm, le_below HB.out (le_below HBA.out (below_regrown _ _ _))⟩
      · obtain rfl : k = l.length := by omega
        go_wp2_with fail
        go_ret2
        exact ⟨by rw [HT.out, HS.out]; rfl, hB⟩
  · rw [if_neg h0]
    have e1 : ((setE l : Int) != 0) = true := by rw [bne_iff_ne]; omega
    generalize setE l = R at *
    have HV := Lib.hid hv
    clear hv hL hl hcap h0
    go_enter Try.func36, Try.ntmps36
    go_wp2_with (go_at_call 46; refine HV.out.mono ?_; rintro e w1 ⟨rfl, hb1⟩)
    go_ret2
    exact ⟨rfl, hb1⟩

set_option maxRecDepth 100000 in
set_option maxHeartbeats 4000000 in
theorem refEncode_any (ao : Option Addr) (cap : Nat) (l : List Lab) (w : World) (hl : l.length < 4611686018427387904) (hsz : ∀ j, j < l.length → l[j]!.n.size < 4611686018427387904 ∧ l[j]!.v.size < 4611686018427387904) (hL : LabsAt w ao l) :
    Calls Try.prog 38 #[.slice ao l.length cap] w fun e w' => e = .returned (.tuple #[.string (encS l), .int .i64 (setE l : Int)]) ∧ Below w.heap.size w w' := by
  have hm := refMake_any ao cap l w hl hsz hL
  have hv := fun (W : World) (hb : Below w.heap.size w W) => refValid_any ao cap l W hl hsz (hL.below hb (Nat.le_refl _))
  have hse := setE_eq l
  unfold encS
  by_cases hc0 : chk l = 0
  · rw [hc0] at hm
    rw [hc0, if_neg (by omega)] at hse
    obtain ⟨hl1, hl8⟩ := chk_zero_len hc0
    cases hvb : validB l
    · rw [hvb] at hv
      rw [hvb, if_neg (by decide)] at hse
      rw [hse, if_neg (by decide)]
      have HM := Lib.hid hm
      have HV := Lib.hid hv
      clear hm hv hL hl hsz hse hc0 hl1 hl8 hvb
      go_enter Try.func38, Try.ntmps38
      go_wp2_with (first
        | (go_at_call 58; refine HM.out.mono ?_; rintro e w1 ⟨v, rfl, hrow⟩; have hb1 := Lib.hid hrow.below; clear hrow)
        | (go_at_call 59; refine (HV.out _ hb1.out).mono ?_; rintro e w2 ⟨rfl, hb2⟩))
      go_ret2
      exact ⟨rfl, le_below hb1.out hb2⟩
    · rw [hvb] at hv
      rw [hvb, if_pos rfl] at hse
      rw [hse, if_pos rfl]
      have hfs := fun k hk => fit_sizes (l := l) hc0 (k := k) hk
      have hes := encK_size l (fun k hk => ⟨(hfs k hk).1, (hfs k hk).2.2⟩)
      have hu := fun W => refUint_any l.length (by omega) W
      obtain ⟨T, hT⟩ : ∃ T, T = encK l l.length := ⟨_, rfl⟩
      rw [← hT]
      have HM := Lib.hid hm
      have HV := Lib.hid hv
      have HL := Lib.hid hL
      have HF := Lib.hid hfs
      have HN8 := Lib.hid hl8
      have HES := Lib.hid hes
      have HT := Lib.hid hT
      have H0 : Hid (encK l 0 = uintS l.length) := rfl
      generalize uintS l.length = U at hu H0
      have HU := Lib.hid hu
      clear hm hv hL hl hsz hse hc0 hl1 hfs hes hT hu hvb
      go_enter Try.func38, Try.ntmps38
      go_wp2_with (first
        | (go_at_call 58; refine HM.out.mono ?_; rintro e w1 ⟨v, rfl, hrow⟩; have hb1 := Lib.hid hrow.below; clear hrow)
        | (go_at_call 59; refine (HV.out _ hb1.out).mono ?_; rintro e w2 ⟨rfl, hb2⟩)
        | (go_at_call 39; refine (HU.out _).mono ?_; rintro e w3 ⟨rfl, hb3⟩))
      go_loopg [7, 8] l.length (fun r q i wr => ∃ (k : Nat) (S : ByteArray), Hid (k + r = l.length) ∧ k ≤ l.length ∧ i = .int .i64 (k : Int) ∧ q = .string S ∧ Hid (S = encK l k) ∧ Below w.heap.size w wr)
      case atStart => exact ⟨0, U, Nat.zero_add _, Nat.zero_le _, rfl, rfl, H0.out.symm, le_below (le_below hb1.out hb2) hb3⟩
      case round =>
        clear hl8
        obtain ⟨k, S, hE, hk, rfl, rfl, HS, hB⟩ := hrel
        have hsz := hB.size
        have hk2 := HN8.out
        by_cases hlt : k < l.length
        · have hLk := HL.out.below hB (Nat.le_refl _)
          obtain ⟨b, off, rfl, hb, q0, q1⟩ := hLk k hlt
          obtain ⟨f1, f2, f3⟩ := HF.out k hlt
          have hs1 := HES.out k (by omega)
          rw [← HS.out] at hs1
          have hen : encK l (k + 1) = encK l k ++ (textS l[k]!.n ++ textS l[k]!.v) := rfl
          rw [← HS.out] at hen
          obtain ⟨x, hx⟩ : ∃ x, x = l[k]! := ⟨_, rfl⟩
          rw [← hx] at q0 q1 f1 f2 f3 hen
          obtain ⟨xn, xv⟩ := x
          simp only at q0 q1 f1 f2 f3 hen
          have ht1 := fun W => refText_any xn (by omega) W
          have ht2 := fun W => refText_any xv (by omega) W
          have z1 := textS_size xn
          have z2 := textS_size xv
          generalize textS xn = A at ht1 z1 hen
          generalize textS xv = B at ht2 z2 hen
          rw [← bytes_assoc] at hen
          have HEN := Lib.hid hen
          have g1 : ¬ 9223372036854775807 < S.size + A.size := by omega
          have g2 : ¬ 9223372036854775807 < S.size + A.size + B.size := by omega
          have q1b : ∀ W, Below wr.heap.size wr W → W.cell? ⟨b, off + k * 2 + 1, none⟩ = some (.string xv) := fun W hW => (hW.cell (p := ⟨b, off + k * 2 + 1, none⟩) hb).trans q1
          have Q1 := Lib.hid q1b
          have HB := Lib.hid hB
          have HT1 := Lib.hid ht1
          have HT2 := Lib.hid ht2
          clear hx hLk hen hB ht1 ht2 q1 q1b
          go_wp2_with (first
            | (go_at_call 60; ((with_reducible refine (HT1.out _).mono ?_); rintro e w5 ⟨rfl, hb5⟩; have q5 := Q1.out _ hb5))
            | (go_at_call 60; ((with_reducible refine (HT2.out _).mono ?_); rintro e w6 ⟨rfl, hb6⟩)))
          go_roundg (l.length - (k + 1))
          case measure => have := hE.out; omega
          case rel => exact ⟨k + 1, _, by show _ = _; omega, by omega, by go_num, rfl, HEN.out.symm, le_below HB.out (le_below hb5 hb6)⟩
        · obtain rfl : k = l.length := by omega
          go_wp2_with fail
          go_ret2
          exact ⟨by rw [HT.out, HS.out]; rfl, hB⟩
  · rw [if_pos hc0] at hse
    rw [hse, if_neg hc0]
    have e1 : ((chk l : Int) != 0) = true := by rw [bne_iff_ne]; omega
    generalize chk l = R at *
    have HM := Lib.hid hm
    clear hm hv hL hl hsz hc0 hse
    go_enter Try.func38, Try.ntmps38
    go_wp2_with (go_at_call 58; refine HM.out.mono ?_; rintro e w1 ⟨v, rfl, hrow⟩; have hb1 := Lib.hid hrow.below; clear hrow)
    go_ret2
    exact ⟨rfl, hb1.out⟩
end Go.Proofs.Ytcpkogboaniehaa.Lab
