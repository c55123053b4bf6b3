/-
  Quotations in the document's answer: contract of Unquote. Own text.
-/
import Derived.Test.YtlolhbhanjhkbaaLRefQ
import Derived.IntWalk
namespace Go.Proofs.Ytlolhbhanjhkbaa.Lab
open Go.RowKit Go Go.Proofs.Ytlolhbhanjhkbaa.Base Go.Shelf Go.Sort Go.Proofs.Ytlolhbhanjhkbaa.Enc

inductive Uk (s : ByteArray) (k : Nat) : Nat → Nat → Prop
  | no (h : ¬ (32 ≤ at8 s k ∧ at8 s k ≤ 126)) : Uk s k 0 0
  | one (h : 32 ≤ at8 s k ∧ at8 s k ≤ 126) (h2 : at8 s k ≠ 92) : Uk s k 1 (at8 s k)
  | two (h2 : at8 s k = 92) (h3 : k + 2 ≤ s.size) (h4 : at8 s (k + 1) = 34 ∨ at8 s (k + 1) = 92) : Uk s k 2 (at8 s (k + 1))
  | end1 (h2 : at8 s k = 92) (h3 : k + 1 = s.size) : Uk s k 0 0
  | end2 (h2 : at8 s k = 92) (h3 : k + 2 ≤ s.size) (h4 : at8 s (k + 1) ≠ 34) (h5 : at8 s (k + 1) ≠ 92) (h6 : ¬ k + 4 ≤ s.size) : Uk s k 0 0
  | end3 (h2 : at8 s k = 92) (h6 : k + 4 ≤ s.size) (h4 : at8 s (k + 1) ≠ 34) (h5 : at8 s (k + 1) ≠ 92) (h7 : at8 s (k + 1) ≠ 120) : Uk s k 0 0
  | bad (h2 : at8 s k = 92) (h6 : k + 4 ≤ s.size) (h7 : at8 s (k + 1) = 120) (h8 : 15 < hexv (at8 s (k + 2)) ∨ (hexv (at8 s (k + 2)) ≤ 15 ∧ 15 < hexv (at8 s (k + 3))) ∨ (hexv (at8 s (k + 2)) ≤ 15 ∧ hexv (at8 s (k + 3)) ≤ 15 ∧ 32 ≤ hexv (at8 s (k + 2)) * 16 + hexv (at8 s (k + 3)) ∧ hexv (at8 s (k + 2)) * 16 + hexv (at8 s (k + 3)) ≤ 126)) : Uk s k 0 0
  | four (h2 : at8 s k = 92) (h6 : k + 4 ≤ s.size) (h7 : at8 s (k + 1) = 120) (h8 : hexv (at8 s (k + 2)) ≤ 15) (h9 : hexv (at8 s (k + 3)) ≤ 15) (h10 : hexv (at8 s (k + 2)) * 16 + hexv (at8 s (k + 3)) < 32 ∨ (32 ≤ hexv (at8 s (k + 2)) * 16 + hexv (at8 s (k + 3)) ∧ 126 < hexv (at8 s (k + 2)) * 16 + hexv (at8 s (k + 3)))) : Uk s k 4 (hexv (at8 s (k + 2)) * 16 + hexv (at8 s (k + 3)))

theorem uk_of (s : ByteArray) (k : Nat) (h0 : k < s.size) : Uk s k (usz s k) (uch s k) := by
  have key : ∀ n, usz s k = n → Uk s k n (if n = 1 then at8 s k else if n = 2 then at8 s (k + 1) else if n = 4 then hexv (at8 s (k + 2)) * 16 + hexv (at8 s (k + 3)) else 0) := by
    intro n hn
    unfold usz at hn
    by_cases a : prB (at8 s k) = false
    · rw [if_pos a] at hn; subst hn; exact .no (prB_no.1 a)
    · rw [if_neg a] at hn
      have a' : prB (at8 s k) = true := by simpa using a
      by_cases b : at8 s k = 92
      · rw [if_neg (fun k => k b)] at hn
        by_cases c : k + 2 ≤ s.size ∧ (at8 s (k + 1) = 34 ∨ at8 s (k + 1) = 92)
        · rw [if_pos c] at hn; subst hn; exact .two b c.1 c.2
        · rw [if_neg c] at hn
          by_cases d : k + 4 ≤ s.size
          · have c1 : at8 s (k + 1) ≠ 34 := fun e => c ⟨by omega, .inl e⟩
            have c2 : at8 s (k + 1) ≠ 92 := fun e => c ⟨by omega, .inr e⟩
            by_cases f : at8 s (k + 1) = 120
            · by_cases x1 : hexv (at8 s (k + 2)) < 16
              · by_cases y1 : hexv (at8 s (k + 3)) < 16
                · by_cases g : prB (hexv (at8 s (k + 2)) * 16 + hexv (at8 s (k + 3))) = false
                  · rw [if_pos ⟨d, f, x1, y1, g⟩] at hn; subst hn; exact .four b d f (by omega) (by omega) (by have := prB_no.1 g; omega)
                  · rw [if_neg (fun k => g k.2.2.2.2)] at hn; subst hn; exact .bad b d f (.inr (.inr ⟨by omega, by omega, by have := prB_yes.1 (by simpa using g : prB (hexv (at8 s (k + 2)) * 16 + hexv (at8 s (k + 3))) = true); omega⟩))
                · rw [if_neg (fun k => y1 k.2.2.2.1)] at hn; subst hn; exact .bad b d f (.inr (.inl ⟨by omega, by omega⟩))
              · rw [if_neg (fun k => x1 k.2.2.1)] at hn; subst hn; exact .bad b d f (.inl (by omega))
            · rw [if_neg (fun k => f k.2.1)] at hn; subst hn; exact .end3 b d c1 c2 f
          · rw [if_neg (fun k => d k.1)] at hn; subst hn
            by_cases e : k + 1 = s.size
            · exact .end1 b e
            · exact .end2 b (by omega) (fun h => c ⟨by omega, .inl h⟩) (fun h => c ⟨by omega, .inr h⟩) d
      · rw [if_pos b] at hn; subst hn; exact .one (prB_yes.1 a') b
  exact key _ rfl

theorem quiet_here {P : Program} {f : FuncId} {args : Array Value} {w : World} {n : Nat} {v : Value} (h : Calls P f args (w.drewN n) fun e w' => e = .returned v ∧ w.drewN n = w') :
    Calls P f args (w.drewN n) fun e w' => e = .returned v ∧ ∃ m, w' = w.drewN m := h.mono fun _ _ ⟨h1, h2⟩ => ⟨h1, n, h2.symm⟩

def oM : Option (List Nat × Nat) → Int
  | none => -1
  | some p => (p.2 : Int)

set_option maxRecDepth 100000 in
set_option maxHeartbeats 8000000 in
theorem refUnquote_any (s : ByteArray) (b : Nat) (hs : s.size ≤ 140737488351232) (hb0 : b ≤ 9223372036854775807) (w : World) :
    Calls Try.prog 34 #[.string s, .int .i64 (b : Int)] w fun e w' => e = .returned (.tuple #[.string (oS (unq s (b : Int))), .int .i64 (oM (unq s (b : Int)))]) ∧ Below w.heap.size w w' := by
  by_cases hout : s.size ≤ b
  · have hn : unq s (b : Int) = none := by unfold unq; rw [if_pos (.inr (by omega))]
    rw [hn]
    have hi : (s.size : Int) ≤ (b : Int) := by omega
    clear hn
    go_enter Try.func34, Try.ntmps34
    go_wp2_with fail
    go_ret2
    exact ⟨rfl, Below.refl _ _⟩
  have hb : b < s.size := by omega
  have hb8 := at8_eq s b hb
  by_cases h34 : at8 s b = 34
  · have hu : unq s (b : Int) = unqR s (s.size + 1) (b + 1) [] := by
      unfold unq
      rw [if_neg (by omega), if_neg (by simpa using h34)]
      simp
    have e1 : ((s[b].toNat : Int) != 34) = false := by
      have : (s[b].toNat : Int) = 34 := by omega
      rw [this]; rfl
    obtain ⟨R, hR⟩ : ∃ R, unq s (b : Int) = R := ⟨_, rfl⟩
    rw [hR]
    rw [hR] at hu
    have HR : Hid (unqR s (s.size + 1) (b + 1) [] = R) := hu.symm
    have hva := fun (c : Nat) (hc : c < 256) W => value_any c hc W
    have HVA := Lib.hid hva
    have h00 := Bytes8.first w #[] [] rfl (by decide)
    have h00' : Bytes8 w (w.alloc (.cells #[] 5)) (.slice (some ⟨w.heap.size, 0, none⟩) 0 0) [] := h00
    have H00 := Lib.hid h00'
    have hd2 : decide (s.size ≤ b) = false := decide_eq_false (by omega)
    clear hout h34 hb8 hu hR hb0 hva h00 h00'
    go_enter Try.func34, Try.ntmps34
    go_wp2_with fail
    go_loopg [6, 7] s.size (fun r q i wr => ∃ (k n cap : Nat) (ao : Option Addr) (L : List Nat), Hid (s.size ≤ k + r) ∧ k ≤ s.size ∧ i = .int .i64 (k : Int) ∧ q = .slice ao n cap ∧ Hid (n = L.length) ∧ n ≤ k ∧ Hid (Bytes8 w wr q L) ∧ Hid (unqR s (r + 1) k L = R))
    case atStart => exact ⟨b + 1, 0, 0, _, [], by show _ ≤ _; omega, by omega, by first | rfl | go_num, rfl, rfl, Nat.zero_le _, H00.out, HR.out⟩
    case round =>
      obtain ⟨k, n, cap, ao, L, hE, hk, rfl, rfl, HN, hn, HB, HU⟩ := hrel
      have hun := HU.out
      by_cases hlt : k < s.size
      · have hk8 := at8_eq s k hlt
        rw [unqR, if_neg (by omega)] at hun
        by_cases q34 : at8 s k = 34
        · rw [if_pos q34] at hun
          subst hun
          have e2 : ((s[k].toNat : Int) == 34) = true := by rw [beq_iff_eq]; omega
          have htx := HB.out.text
          obtain ⟨T, hT⟩ : ∃ T, T = strN L := ⟨_, rfl⟩
          rw [← hT] at htx
          have HT := Lib.hid hT
          clear hk8 q34 hT
          go_wp2_with fail
          go_ret2
          exact ⟨by rw [show oS (some (L, k + 1)) = T from HT.out.symm]; first | rfl | (simp [oM]; done), HB.out.below⟩
        · rw [if_neg q34] at hun
          have e2 : ((s[k].toNat : Int) == 34) = false := by rw [beq_eq_false_iff_ne]; omega
          have hUk := uk_of s k hlt
          have hcl := uch_lt s k
          generalize usz s k = Z at *
          generalize uch s k = C at *
          obtain ⟨t, rfl⟩ : ∃ t, gk = t + 1 := ⟨gk - 1, by have := hE.out; omega⟩
          have hEo := hE.out
          cases hUk with
          | no h =>
            rw [if_pos rfl] at hun
            subst hun
            rw [hk8] at h
            have hbv : (s[k].toNat < 32) ∨ (32 ≤ s[k].toNat ∧ 126 < s[k].toNat) := by omega
            clear hk8 q34 h hcl
            rcases hbv with c1 | ⟨c1, c2⟩
            all_goals
              go_wp2_with fail
              go_ret2
              exact ⟨rfl, HB.out.below⟩
          | one h h2 =>
            rw [if_neg (by decide)] at hun
            obtain ⟨ao', cap', w1, hrun, hB1⟩ := HB.out.append #[.int .u8 (s[k].toNat : Int)] [at8 s k] (by rw [hk8]; rfl) (by rw [← HN.out]; simp; omega)
            rw [← HN.out] at hrun hB1
            rw [hk8] at h h2
            have e3 : ((s[k].toNat : Int) != 92) = true := by rw [bne_iff_ne]; omega
            have HRun := Lib.hid hrun
            have HB1 := Lib.hid hB1
            have HUN := Lib.hid hun
            obtain ⟨c1, c2⟩ := h
            clear hk8 q34 h2 hcl hrun hB1 hun
            go_wp2_with (at_builtin; refine Row.append_by rfl (.tmp 44) (.tmp 46) _ rfl _ _ rfl rfl HRun.out ?_)
            go_roundg t
            case measure => omega
            case rel => exact ⟨k + 1, n + 1, cap', ao', _, by show _ ≤ _; omega, by omega, by first | rfl | go_num, rfl, by show _ = _; rw [List.length_append, HN.out]; rfl, by omega, HB1.out, HUN.out⟩
          | two h2 h3 h4 =>
            have b1 := at8_eq s (k + 1) (by omega)
            rw [if_neg (by decide)] at hun
            obtain ⟨ao', cap', w1, hrun, hB1⟩ := HB.out.append #[.int .u8 (s[k + 1].toNat : Int)] [at8 s (k + 1)] (by rw [b1]; rfl) (by rw [← HN.out]; simp; omega)
            rw [← HN.out] at hrun hB1
            rw [hk8] at h2
            rw [b1] at h4
            have e3 : ((s[k].toNat : Int) != 92) = false := by
              have : (s[k].toNat : Int) = 92 := by omega
              rw [this]; rfl
            have g1 : ¬ s[k].toNat < 32 := by omega
            have g2 : ¬ 126 < s[k].toNat := by omega
            have hc : ((s[k + 1].toNat : Int) == 34) = true ∨ (((s[k + 1].toNat : Int) == 34) = false ∧ ((s[k + 1].toNat : Int) == 92) = true) := by
              rcases h4 with h | h
              · left; rw [beq_iff_eq]; omega
              · right; exact ⟨by rw [beq_eq_false_iff_ne]; omega, by rw [beq_iff_eq]; omega⟩
            have HRun := Lib.hid hrun
            have HB1 := Lib.hid hB1
            have HUN := Lib.hid hun
            have i1 : k + 1 < s.size := by omega
            clear hk8 q34 h2 h4 hcl hrun hB1 hun b1
            rcases hc with c1 | ⟨c1, c2⟩
            all_goals
              go_wp2_with (at_builtin; refine Row.append_by rfl (.tmp 69) (.tmp 74) _ rfl _ _ rfl rfl HRun.out ?_)
              go_roundg t
              case measure => omega
              case rel => exact ⟨k + 2, n + 1, cap', ao', _, by show _ ≤ _; omega, by omega, by first | rfl | go_num, rfl, by show _ = _; rw [List.length_append, HN.out]; rfl, by omega, HB1.out, HUN.out⟩
          | end1 h2 h3 =>
            rw [if_pos rfl] at hun
            subst hun
            rw [hk8] at h2
            have e3 : ((s[k].toNat : Int) != 92) = false := by
              have : (s[k].toNat : Int) = 92 := by omega
              rw [this]; rfl
            have g1 : ¬ s[k].toNat < 32 := by omega
            have g2 : ¬ 126 < s[k].toNat := by omega
            have i1 : ¬ k + 1 < s.size := by omega
            have i3 : s.size ≤ k + 3 := by omega
            clear hk8 q34 h2 hcl
            go_wp2_with fail
            go_ret2
            exact ⟨rfl, HB.out.below⟩
          | end2 h2 h3 h4 h5 h6 =>
            have b1 := at8_eq s (k + 1) (by omega)
            rw [if_pos rfl] at hun
            subst hun
            rw [hk8] at h2
            rw [b1] at h4 h5
            have e3 : ((s[k].toNat : Int) != 92) = false := by
              have : (s[k].toNat : Int) = 92 := by omega
              rw [this]; rfl
            have g1 : ¬ s[k].toNat < 32 := by omega
            have g2 : ¬ 126 < s[k].toNat := by omega
            have c1 : ((s[k + 1].toNat : Int) == 34) = false := by rw [beq_eq_false_iff_ne]; omega
            have c2 : ((s[k + 1].toNat : Int) == 92) = false := by rw [beq_eq_false_iff_ne]; omega
            have i1 : k + 1 < s.size := by omega
            have i3 : s.size ≤ k + 3 := by omega
            clear hk8 q34 h2 hcl b1 h4 h5
            go_wp2_with fail
            go_ret2
            exact ⟨rfl, HB.out.below⟩
          | end3 h2 h6 h4 h5 h7 =>
            have b1 := at8_eq s (k + 1) (by omega)
            rw [if_pos rfl] at hun
            subst hun
            rw [hk8] at h2
            rw [b1] at h4 h5 h7
            have e3 : ((s[k].toNat : Int) != 92) = false := by
              have : (s[k].toNat : Int) = 92 := by omega
              rw [this]; rfl
            have g1 : ¬ s[k].toNat < 32 := by omega
            have g2 : ¬ 126 < s[k].toNat := by omega
            have c1 : ((s[k + 1].toNat : Int) == 34) = false := by rw [beq_eq_false_iff_ne]; omega
            have c2 : ((s[k + 1].toNat : Int) == 92) = false := by rw [beq_eq_false_iff_ne]; omega
            have c3 : ((s[k + 1].toNat : Int) != 120) = true := by rw [bne_iff_ne]; omega
            have i1 : k + 1 < s.size := by omega
            have i3 : ¬ s.size ≤ k + 3 := by omega
            clear hk8 q34 h2 hcl b1 h4 h5 h7
            go_wp2_with fail
            go_ret2
            exact ⟨rfl, HB.out.below⟩
          | bad h2 h6 h7 h8 =>
            have b1 := at8_eq s (k + 1) (by omega)
            have b2 := at8_eq s (k + 2) (by omega)
            have b3 := at8_eq s (k + 3) (by omega)
            have la := hexv_le (at8 s (k + 2))
            have lb := hexv_le (at8 s (k + 3))
            have va := fun W => HVA.out (at8 s (k + 2)) (at8_lt s (k + 2)) W
            have vb := fun W => HVA.out (at8 s (k + 3)) (at8_lt s (k + 3)) W
            generalize hexv (at8 s (k + 2)) = A at *
            generalize hexv (at8 s (k + 3)) = B at *
            rw [b2] at va
            rw [b3] at vb
            rw [if_pos rfl] at hun
            subst hun
            rw [hk8] at h2
            rw [b1] at h7
            have e3 : ((s[k].toNat : Int) != 92) = false := by
              have : (s[k].toNat : Int) = 92 := by omega
              rw [this]; rfl
            have g1 : ¬ s[k].toNat < 32 := by omega
            have g2 : ¬ 126 < s[k].toNat := by omega
            have c1 : ((s[k + 1].toNat : Int) == 34) = false := by rw [beq_eq_false_iff_ne]; omega
            have c2 : ((s[k + 1].toNat : Int) == 92) = false := by rw [beq_eq_false_iff_ne]; omega
            have c3 : ((s[k + 1].toNat : Int) != 120) = false := by
              have : (s[k + 1].toNat : Int) = 120 := by omega
              rw [this]; rfl
            have i1 : k + 1 < s.size := by omega
            have i3 : ¬ s.size ≤ k + 3 := by omega
            have VA := Lib.hid va
            have VB := Lib.hid vb
            clear hk8 q34 h2 hcl b1 b2 b3 h7 va vb
            go_wp2_with fail
            have u1 : IntKind.i64.wrap ((k : Int) + 2) = (k : Int) + 2 := IntWalk.i64_in _ (by omega)
            have u2 : IntKind.i64.wrap ((k : Int) + 3) = (k : Int) + 3 := IntWalk.i64_in _ (by omega)
            have u3 : (0 : Int) ≤ (k : Int) + 2 := by omega
            have u4 : (0 : Int) ≤ (k : Int) + 3 := by omega
            have u5 : ((k : Int) + 2).toNat = k + 2 := by omega
            have u6 : ((k : Int) + 3).toNat = k + 3 := by omega
            have u7 : (k : Int) + 2 < (s.size : Int) := by omega
            have u8' : (k : Int) + 3 < (s.size : Int) := by omega
            have u7n : k + 2 < s.size := by omega
            have u8n : k + 3 < s.size := by omega
            have u9 : IntKind.i64.wrap ((A : Int) * 16) = (A : Int) * 16 := IntWalk.i64_in _ (by omega)
            have u10 : IntKind.i64.wrap ((A : Int) * 16 + (B : Int)) = (A : Int) * 16 + (B : Int) := IntWalk.i64_in _ (by omega)
            go_quiet (first | (go_at_call 56; with_reducible exact Calls.quiet_of_same (VA.out _)) | (go_at_call 56; with_reducible exact quiet_here (VA.out _)) | (go_at_call 56; with_reducible exact quiet_here (VB.out _)) | (go_at_call 56; with_reducible exact Calls.quiet_of_same (VB.out _)))
            clear u1 u2 u9 u10
            have hv : (15 : Int) < (A : Int) ∨ (¬ (15 : Int) < (A : Int) ∧ (15 : Int) < (B : Int)) ∨ (¬ (15 : Int) < (A : Int) ∧ ¬ (15 : Int) < (B : Int) ∧ (32 : Int) ≤ (A : Int) * 16 + (B : Int) ∧ (A : Int) * 16 + (B : Int) ≤ 126) := by omega
            rcases hv with v1 | ⟨v1, v2⟩ | ⟨v1, v2, v3, v4⟩
            all_goals
              go_wp2_with (first
                | (go_at_call 56; ((with_reducible refine (VA.out _).mono ?_); rintro e w5 ⟨rfl, rfl⟩))
                | (go_at_call 56; ((with_reducible refine (VB.out _).mono ?_); rintro e w5 ⟨rfl, rfl⟩)))
              go_ret2
              exact ⟨rfl, below_drewN HB.out.below _⟩
          | four h2 h6 h7 h8 h9 h10 =>
            have b1 := at8_eq s (k + 1) (by omega)
            have b2 := at8_eq s (k + 2) (by omega)
            have b3 := at8_eq s (k + 3) (by omega)
            have va := fun W => HVA.out (at8 s (k + 2)) (at8_lt s (k + 2)) W
            have vb := fun W => HVA.out (at8 s (k + 3)) (at8_lt s (k + 3)) W
            generalize hexv (at8 s (k + 2)) = A at *
            generalize hexv (at8 s (k + 3)) = B at *
            rw [b2] at va
            rw [b3] at vb
            rw [if_neg (by decide)] at hun
            have hap : ∀ nd, ∃ ao' cap' w9, (Builtin.append_ #[82, 82] 82 #[.slice ao n cap, .slice (some ⟨wr.heap.size, 0, none⟩) 1 1]).run Try.prog ((wr.drewN nd).alloc (.cells #[.int .u8 ((A : Int) * 16 + (B : Int))] 5)) = .ok (.slice ao' (n + 1) cap') w9 ∧ Bytes8 w w9 (.slice ao' (n + 1) cap') (L ++ [A * 16 + B]) := fun nd => by
              obtain ⟨ao', cap', w9, h1, h2⟩ := (HB.out.drewN nd).append #[.int .u8 ((A : Int) * 16 + (B : Int))] [A * 16 + B] (by rw [(by omega : (A : Int) * 16 + (B : Int) = ((A * 16 + B : Nat) : Int))]; rfl) (by rw [← HN.out]; simp; omega)
              rw [← HN.out] at h1 h2
              exact ⟨ao', cap', w9, h1, h2⟩
            rw [hk8] at h2
            rw [b1] at h7
            have e3 : ((s[k].toNat : Int) != 92) = false := by
              have : (s[k].toNat : Int) = 92 := by omega
              rw [this]; rfl
            have g1 : ¬ s[k].toNat < 32 := by omega
            have g2 : ¬ 126 < s[k].toNat := by omega
            have c1 : ((s[k + 1].toNat : Int) == 34) = false := by rw [beq_eq_false_iff_ne]; omega
            have c2 : ((s[k + 1].toNat : Int) == 92) = false := by rw [beq_eq_false_iff_ne]; omega
            have c3 : ((s[k + 1].toNat : Int) != 120) = false := by
              have : (s[k + 1].toNat : Int) = 120 := by omega
              rw [this]; rfl
            have i1 : k + 1 < s.size := by omega
            have i3 : ¬ s.size ≤ k + 3 := by omega
            have VA := Lib.hid va
            have VB := Lib.hid vb
            have HAP := Lib.hid hap
            have HUN := Lib.hid hun
            clear hk8 q34 h2 hcl b1 b2 b3 h7 va vb hap hun
            go_wp2_with fail
            have u1 : IntKind.i64.wrap ((k : Int) + 2) = (k : Int) + 2 := IntWalk.i64_in _ (by omega)
            have u2 : IntKind.i64.wrap ((k : Int) + 3) = (k : Int) + 3 := IntWalk.i64_in _ (by omega)
            have u3 : (0 : Int) ≤ (k : Int) + 2 := by omega
            have u4 : (0 : Int) ≤ (k : Int) + 3 := by omega
            have u5 : ((k : Int) + 2).toNat = k + 2 := by omega
            have u6 : ((k : Int) + 3).toNat = k + 3 := by omega
            have u7 : (k : Int) + 2 < (s.size : Int) := by omega
            have u8' : (k : Int) + 3 < (s.size : Int) := by omega
            have u7n : k + 2 < s.size := by omega
            have u8n : k + 3 < s.size := by omega
            have u9 : IntKind.i64.wrap ((A : Int) * 16) = (A : Int) * 16 := IntWalk.i64_in _ (by omega)
            have u10 : IntKind.i64.wrap ((A : Int) * 16 + (B : Int)) = (A : Int) * 16 + (B : Int) := IntWalk.i64_in _ (by omega)
            go_quiet (first | (go_at_call 56; with_reducible exact Calls.quiet_of_same (VA.out _)) | (go_at_call 56; with_reducible exact quiet_here (VA.out _)) | (go_at_call 56; with_reducible exact quiet_here (VB.out _)) | (go_at_call 56; with_reducible exact Calls.quiet_of_same (VB.out _)))
            clear u1 u2 u9 u10
            obtain ⟨ao', cap', w9, hrun, hB9⟩ := HAP.out nq
            have HRun := Lib.hid hrun
            have HB9 := Lib.hid hB9
            clear hrun hB9
            have hv : ¬ (32 : Int) ≤ (A : Int) * 16 + (B : Int) ∨ ((32 : Int) ≤ (A : Int) * 16 + (B : Int) ∧ ¬ (A : Int) * 16 + (B : Int) ≤ 126) := by omega
            rcases hv with v1 | ⟨v1, v2⟩
            all_goals
              go_wp2_with (first
                | (go_at_call 56; ((with_reducible refine (VA.out _).mono ?_); rintro e w5 ⟨rfl, rfl⟩))
                | (go_at_call 56; ((with_reducible refine (VB.out _).mono ?_); rintro e w5 ⟨rfl, rfl⟩))
                | (at_builtin; refine Row.append_by rfl (.tmp 124) (.tmp 127) _ rfl _ _ rfl rfl HRun.out ?_))
              go_roundg t
              case measure => omega
              case rel => exact ⟨k + 4, n + 1, cap', ao', _, by show _ ≤ _; omega, by omega, by first | rfl | go_num, rfl, by show _ = _; rw [List.length_append, HN.out]; rfl, by omega, HB9.out, HUN.out⟩
      · rw [unqR, if_pos (by omega)] at hun
        subst hun
        obtain rfl : k = s.size := by omega
        go_wp2_with fail
        go_ret2
        exact ⟨rfl, HB.out.below⟩
  · have hn : unq s (b : Int) = none := by unfold unq; rw [if_neg (by omega), if_pos (by simpa using h34)]
    rw [hn]
    have e1 : ((s[b].toNat : Int) != 34) = true := by rw [bne_iff_ne]; omega
    clear hout h34 hb8 hn
    go_enter Try.func34, Try.ntmps34
    go_wp2_with fail
    go_ret2
    exact ⟨rfl, Below.refl _ _⟩
end Go.Proofs.Ytlolhbhanjhkbaa.Lab
