/-
  A text out of its quoted form: contract of Unquote. Own text.
-/
import Derived.Test.YtlolhbhanjhkbaaLUnq
namespace Go.Proofs.Ytlolhbhanjhkbaa.Lab
open Go.RowKit Go Go.Proofs.Ytlolhbhanjhkbaa.Base Go.Shelf Go.Sort

/-- what is read from place i on, behind acc, in at most f steps -/
def unqR (s : ByteArray) : Nat → Nat → List Nat → Option (List Nat × Nat)
  | 0, _, _ => none
  | f + 1, i, acc => if s.size ≤ i then none else if at8 s i = 34 then some (acc, i + 1) else if usz s i = 0 then none else unqR s f (i + usz s i) (acc ++ [uch s i])
def unq (s : ByteArray) (a : Int) : Option (List Nat × Nat) := if a < 0 ∨ (s.size : Int) ≤ a then none else if at8 s a.toNat ≠ 34 then none else unqR s (s.size + 1) (a.toNat + 1) []
def oS : Option (List Nat × Nat) → ByteArray
  | none => ByteArray.empty
  | some p => strN p.1
def oN : Option (List Nat × Nat) → Nat
  | none => 0
  | some p => p.2
def oE : Option (List Nat × Nat) → Nat
  | none => 21
  | some _ => 0

theorem usz_le (s : ByteArray) (i : Nat) (h : i < s.size) : i + usz s i ≤ s.size ∧ usz s i ≤ 4 := by
  unfold usz
  split
  · omega
  · split
    · omega
    · split
      · omega
      · split <;> omega
theorem uch_lt (s : ByteArray) (i : Nat) : uch s i < 256 := by
  unfold uch
  have h0 := at8_lt s i
  have h1 := at8_lt s (i + 1)
  split
  · exact h0
  · split
    · exact h1
    · split
      · rename_i h4
        unfold usz at h4
        split at h4
        · omega
        · split at h4
          · omega
          · split at h4
            · omega
            · split at h4
              · omega
              · omega
      · omega

set_option maxRecDepth 100000 in
set_option maxHeartbeats 4000000 in
theorem unquote_any (s : ByteArray) (a : Int) (hs : s.size ≤ 140737488351232) (w : World) :
    Calls Try.prog 33 #[.string s, .int .i64 a] w fun e w' => e = .returned (.tuple #[.string (oS (unq s a)), .int .i64 (oN (unq s a) : Int), .int .i64 (oE (unq s a) : Int)]) ∧ Below w.heap.size w w' := by
  by_cases hout : a < 0 ∨ (s.size : Int) ≤ a
  · have hn : unq s a = none := by unfold unq; rw [if_pos hout]
    rw [hn]
    by_cases ha : a < 0
    · clear hout hn
      go_enter Try.func33, Try.ntmps33
      go_wp2_with fail
      go_ret3
      exact ⟨rfl, Below.refl _ _⟩
    · have ha2 : (s.size : Int) ≤ a := by omega
      have ha3 : ¬ a < 0 := ha
      clear hout hn ha
      go_enter Try.func33, Try.ntmps33
      go_wp2_with fail
      go_ret3
      exact ⟨rfl, Below.refl _ _⟩
  obtain ⟨b, rfl⟩ := Int.eq_ofNat_of_zero_le (show 0 ≤ a by omega)
  have hb : b < s.size := by omega
  have hb8 := at8_eq s b hb
  by_cases h34 : at8 s b = 34
  · have hu : unq s (b : Int) = unqR s (s.size + 1) (b + 1) [] := by
      unfold unq
      rw [if_neg hout, if_neg (by simpa using h34)]
      simp
    have e1 : ((s[b].toNat : Int) != 34) = false := by
      have : (s[b].toNat : Int) = 34 := by omega
      rw [this]; rfl
    obtain ⟨R, hR⟩ : ∃ R, unq s (b : Int) = R := ⟨_, rfl⟩
    rw [hR]
    rw [hR] at hu
    have HR : Hid (unqR s (s.size + 1) (b + 1) [] = R) := hu.symm
    have hd1 : decide ((b : Int) < 0) = false := decide_eq_false (by omega)
    have hd2 : decide (s.size ≤ b) = false := decide_eq_false (by omega)
    clear hout h34 hb8 hu hR
    go_enter Try.func33, Try.ntmps33
    go_wp2_with fail
    go_loopg [7, 8] s.size (fun r q i wr => ∃ (k n cap : Nat) (ao : Option Addr) (L : List Nat), Hid (s.size ≤ k + r) ∧ k ≤ s.size ∧ i = .int .i64 (k : Int) ∧ q = .slice ao n cap ∧ Hid (n = L.length) ∧ n ≤ k ∧ Hid (Bytes8 w wr q L) ∧ Hid (unqR s (r + 1) k L = R))
    case atStart => exact ⟨b + 1, 0, 0, none, [], by show _ ≤ _; omega, by omega, by first | rfl | go_num, rfl, rfl, Nat.zero_le _, Bytes8.nil w, HR.out⟩
    case round =>
      obtain ⟨k, n, cap, ao, L, hE, hk, rfl, rfl, HN, hn, HB, HU⟩ := hrel
      have hun := HU.out
      by_cases hlt : k < s.size
      · have hk8 := at8_eq s k hlt
        rw [unqR, if_neg (by omega)] at hun
        by_cases q34 : at8 s k = 34
        · rw [if_pos q34] at hun
          subst hun
          have e2 : ((s[k].toNat : Int) == 34) = true := by rw [beq_iff_eq]; omega
          have htx := HB.out.text
          obtain ⟨T, hT⟩ : ∃ T, T = strN L := ⟨_, rfl⟩
          rw [← hT] at htx
          have HT := Lib.hid hT
          clear hk8 q34 hT
          go_wp2_with fail
          go_ret3
          exact ⟨by rw [show oS (some (L, k + 1)) = T from HT.out.symm]; first | rfl | (simp [oN, oE]; done), HB.out.below⟩
        · rw [if_neg q34] at hun
          have e2 : ((s[k].toNat : Int) == 34) = false := by rw [beq_eq_false_iff_ne]; omega
          have huq := fun W => unquoteByte_any (s.extract k s.size) (by rw [size_tail]; omega) W
          obtain ⟨t1, t2⟩ := usz_tail s k (by omega)
          rw [t1, t2] at huq
          obtain ⟨z1, z2⟩ := usz_le s k hlt
          have hcl := uch_lt s k
          by_cases u0 : usz s k = 0
          · rw [if_pos u0] at hun
            subst hun
            rw [u0] at huq
            generalize uch s k = C at huq
            generalize hX : s.extract k s.size = X at huq
            have HX := Lib.hid hX
            have HUQ := Lib.hid huq
            clear hk8 q34 t1 t2 z1 z2 hcl u0 huq
            go_wp2_with (go_at_call 55; (refine (HUQ.out _).mono ?_; rintro e w2 ⟨rfl, nd, rfl⟩))
            go_ret3
            exact ⟨rfl, below_drewN HB.out.below _⟩
          · rw [if_neg u0] at hun
            have e3 : ((usz s k : Int) == 0) = false := by rw [beq_eq_false_iff_ne]; omega
            generalize uch s k = C at huq hun hcl
            generalize usz s k = Z at *
            obtain ⟨t, rfl⟩ : ∃ t, gk = t + 1 := ⟨gk - 1, by have := hE.out; omega⟩
            have hap : ∀ nd, ∃ ao' cap' w9, (Builtin.append_ #[82, 82] 82 #[.slice ao n cap, .slice (some ⟨wr.heap.size, 0, none⟩) 1 1]).run Try.prog ((wr.drewN nd).alloc (.cells #[.int .u8 (C : Int)] 5)) = .ok (.slice ao' (n + 1) cap') w9 ∧ Bytes8 w w9 (.slice ao' (n + 1) cap') (L ++ [C]) := fun nd => by
              obtain ⟨ao', cap', w9, h1, h2⟩ := (HB.out.drewN nd).append #[.int .u8 (C : Int)] [C] rfl (by rw [← HN.out]; simp; omega)
              rw [← HN.out] at h1 h2
              exact ⟨ao', cap', w9, h1, h2⟩
            have HAP := Lib.hid hap
            have HUN := Lib.hid hun
            have HUQ := Lib.hid huq
            have HZ := Lib.hid u0
            clear hk8 q34 t1 t2 hcl u0 huq hap hun
            go_wp2_with (first
              | (go_at_call 55; (refine (HUQ.out _).mono ?_; rintro e w2 ⟨rfl, nd, rfl⟩; obtain ⟨ao', cap', w9, hrun, hB9⟩ := HAP.out nd; have HRun := Lib.hid hrun; have HB9 := Lib.hid hB9; clear hrun hB9))
              | (at_builtin; refine Row.append_by rfl (.tmp 48) (.tmp 50) _ rfl _ _ rfl rfl HRun.out ?_))
            go_roundg t
            case measure => omega
            case rel => exact ⟨k + Z, n + 1, cap', ao', L ++ [C], by show _ ≤ _; have := hE.out; have := HZ.out; omega, by omega, by first | rfl | go_num | (congr 1), rfl, by show _ = _; rw [List.length_append, HN.out]; rfl, by have := HZ.out; omega, HB9.out, HUN.out⟩
      · rw [unqR, if_pos (by omega)] at hun
        subst hun
        obtain rfl : k = s.size := by omega
        go_wp2_with fail
        go_ret3
        exact ⟨rfl, HB.out.below⟩
  · have hn : unq s (b : Int) = none := by unfold unq; rw [if_neg hout, if_pos (by simpa using h34)]
    rw [hn]
    have e1 : ((s[b].toNat : Int) != 34) = true := by rw [bne_iff_ne]; omega
    clear hout h34 hb8 hn
    go_enter Try.func33, Try.ntmps33
    go_wp2_with fail
    go_ret3
    exact ⟨rfl, Below.refl _ _⟩
end Go.Proofs.Ytlolhbhanjhkbaa.Lab
