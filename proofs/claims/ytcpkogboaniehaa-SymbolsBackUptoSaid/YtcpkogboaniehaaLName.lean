/-
  Names: contracts of isName and of the document's FitName, FitValue; isPrintable. Own text.
-/
import Derived.Test.YtcpkogboaniehaaLPure
namespace Go.Proofs.Ytcpkogboaniehaa.Lab
open Go.RowKit Go Go.Proofs.Ytcpkogboaniehaa.Base

theorem toList_data (d : ByteArray) : d.toList = d.data.toList := by
  have h : ∀ n (i : Nat) (r : List UInt8), d.size - i = n → ByteArray.toList.loop d i r = r.reverse ++ d.data.toList.drop i := by
    intro n
    induction n with
    | zero =>
      intro i r hi
      rw [ByteArray.toList.loop, if_neg (by omega), List.drop_of_length_le (by simp; omega), List.append_nil]
    | succ n ih =>
      intro i r hi
      have hlt : i < d.size := by omega
      rw [ByteArray.toList.loop, if_pos hlt, ih (i + 1) _ (by omega)]
      have hl : i < d.data.toList.length := by simpa using hlt
      rw [List.drop_eq_getElem_cons hl, List.reverse_cons, List.append_assoc]
      congr 2
      simp only [ByteArray.get!]
      rw [getElem!_pos d.data i (by simpa using hlt)]
      simp
  have := h d.size 0 [] rfl
  simpa [ByteArray.toList] using this
theorem isEmpty_iff (d : ByteArray) : d.toList.isEmpty = decide (d.size = 0) := by
  rw [toList_data]
  rw [Bool.eq_iff_iff, decide_eq_true_eq, List.isEmpty_iff]
  constructor
  · intro h
    have := congrArg List.length h
    simpa using this
  · intro h
    apply List.eq_nil_of_length_eq_zero
    simpa using h
theorem toList_nil {d : ByteArray} (h : d.size = 0) : d.toList = [] := by
  have := isEmpty_iff d
  rw [h] at this
  simpa using this
theorem toList_cons {d : ByteArray} (h : d.size ≠ 0) : ¬ d.toList = [] := by
  have := isEmpty_iff d
  intro e
  rw [e] at this
  simp only [List.isEmpty_nil] at this
  exact h (by simpa using this.symm)

theorem ret_bool {a b : Bool} (h : a = b) : Ending.returned (.bool a) = .returned (.bool b) := by rw [h]

theorem okc_letter {i b : Nat} (h : letter b = true) : okc i b = true := by unfold okc; rw [h]; rfl

set_option maxHeartbeats 4000000 in
theorem isName_any (s : ByteArray) (w : World) :
    Calls Try.prog 90 #[.string s] w fun e w' => e = .returned (.bool (fitN s)) ∧ w = w' := by
  by_cases h0 : s.size = 0
  · rw [fitN_short h0]
    have hs := toList_nil h0
    have hs2 : s.toList.isEmpty = true := by rw [hs]; rfl
    go_enter Try.func90, Try.ntmps90
    go_wp2_with fail
    go_ret
    exact ⟨rfl, rfl⟩
  have hs := toList_cons h0
  have hs2 : s.toList.isEmpty = false := by rw [isEmpty_iff]; simpa using h0
  by_cases h1 : 32 < s.size
  · rw [fitN_long h1]
    go_enter Try.func90, Try.ntmps90
    go_wp2_with fail
    go_ret
    exact ⟨rfl, rfl⟩
  obtain ⟨F, hF⟩ : ∃ F, fitN s = F := ⟨_, rfl⟩
  rw [hF]
  have HF := Lib.hid hF
  clear hF
  go_enter Try.func90, Try.ntmps90
  go_wp2_with fail
  go_loopg [14] s.size (fun r i wr => ∃ k : Nat, Hid (k + r = s.size) ∧ k ≤ s.size ∧ i = .int .i64 (k : Int) ∧ Hid (∀ j, j < k → okc j (at8 s j) = true) ∧ wr = w)
  case atStart => exact ⟨0, Nat.zero_add _, Nat.zero_le _, rfl, fun j hj => by omega, rfl⟩
  case round =>
    obtain ⟨k, hE, hk, rfl, HJ, rfl⟩ := hrel
    by_cases hlt : k < s.size
    · obtain ⟨b, hb⟩ : ∃ b, b = (s[k]'hlt).toNat := ⟨_, rfl⟩
      have hb8 : b = at8 s k := by rw [hb, at8_eq s k hlt]
      have HB := Lib.hid hb8
      have hbl : b < 256 := by rw [hb8]; exact at8_lt s k
      clear hb8
      have next : okc k b = true → ∀ j, j < k + 1 → okc j (at8 s j) = true := fun h j hj => by
        by_cases e : j = k
        · rw [e, ← HB.out]; exact h
        · exact HJ.out j (by omega)
      have stop : okc k b = false → F = false := fun h => by rw [← HF.out]; exact fitN_bad hlt (by rw [← HB.out]; exact h)
      have NX := Lib.hid next
      have ST := Lib.hid stop
      clear next stop
      rcases (chr_of b).two k with ⟨c1, c2⟩ | ⟨c1, c2⟩ | ⟨rfl⟩ | ⟨c1, c2, c3⟩ | ⟨c1, c2, c3⟩ | ⟨c1⟩ | ⟨c1, c2⟩ | ⟨c1, c2⟩ | ⟨c1, c2⟩ | ⟨c1⟩
      all_goals
        first
        | (obtain rfl : F = false := ST.out (by unfold okc letter digit; simp; omega)
           go_wp2_with fail
           go_ret
           exact ⟨rfl, rfl⟩)
        | (have hn := NX.out (by unfold okc letter digit; first | (simp; done) | (simp; omega))
           have HN := Lib.hid hn
           clear hn
           go_wp2_with fail
           go_roundg (s.size - (k + 1))
           case measure => have := hE.out; omega
           case rel => exact ⟨k + 1, by show _ = _; omega, by omega, by go_num, HN.out, rfl⟩)
    · obtain rfl : k = s.size := by omega
      have hT : F = true := by rw [← HF.out]; exact fitN_good (by omega) (by omega) HJ.out
      subst hT
      go_wp2_with fail
      go_ret
      exact ⟨rfl, rfl⟩

set_option maxHeartbeats 4000000 in
theorem refFitName_any (s : ByteArray) (hs : s.size < 4611686018427387904) (w : World) :
    Calls Try.prog 44 #[.string s] w fun e w' => e = .returned (.bool (fitN s)) ∧ w = w' := by
  obtain ⟨F, hF⟩ : ∃ F, fitN s = F := ⟨_, rfl⟩
  rw [hF]
  have HF := Lib.hid hF
  have HS := Lib.hid hs
  clear hF
  go_enter Try.func44, Try.ntmps44
  go_wp2_with fail
  go_loopg [3] s.size (fun r i wr => ∃ k : Nat, Hid (k + r = s.size) ∧ k ≤ s.size ∧ i = .int .i64 (k : Int) ∧ Hid (∀ j, j < k → okc j (at8 s j) = true) ∧ wr = w)
  case atStart => exact ⟨0, Nat.zero_add _, Nat.zero_le _, rfl, fun j hj => by omega, rfl⟩
  case round =>
    obtain ⟨k, hE, hk, rfl, HJ, rfl⟩ := hrel
    by_cases hlt : k < s.size
    · obtain ⟨b, hb⟩ : ∃ b, b = (s[k]'hlt).toNat := ⟨_, rfl⟩
      have hb8 : b = at8 s k := by rw [hb, at8_eq s k hlt]
      have HB := Lib.hid hb8
      have hbl : b < 256 := by rw [hb8]; exact at8_lt s k
      clear hb8
      have next : okc k b = true → ∀ j, j < k + 1 → okc j (at8 s j) = true := fun h j hj => by
        by_cases e : j = k
        · rw [e, ← HB.out]; exact h
        · exact HJ.out j (by omega)
      have stop : okc k b = false → F = false := fun h => by rw [← HF.out]; exact fitN_bad hlt (by rw [← HB.out]; exact h)
      have NX := Lib.hid next
      have ST := Lib.hid stop
      clear next stop
      have he : b ≠ 95 → (((s[k]'hlt).toNat : Int) == 95) = false := fun h => by rw [beq_eq_false_iff_ne]; omega
      have hz1 : 0 < k → ((k : Int) == 0) = false := fun h => by rw [beq_eq_false_iff_ne]; omega
      have hz0 : ¬ 0 < k → ((k : Int) == 0) = true := fun h => by rw [beq_iff_eq]; omega
      have HEQ := Lib.hid he
      have HZ1 := Lib.hid hz1
      have HZ0 := Lib.hid hz0
      clear he hz1 hz0
      have hkk : (0 < k ∧ Hid (((k : Int) == 0) = false)) ∨ (¬ 0 < k ∧ Hid (((k : Int) == 0) = true)) := by
        by_cases h : 0 < k
        · exact .inl ⟨h, HZ1.out h⟩
        · exact .inr ⟨h, HZ0.out h⟩
      rcases (chr_of b).two k with ⟨c1, c2⟩ | ⟨c1, c2⟩ | ⟨rfl⟩ | ⟨c1, c2, c3⟩ | ⟨c1, c2, c3⟩ | ⟨c1⟩ | ⟨c1, c2⟩ | ⟨c1, c2⟩ | ⟨c1, c2⟩ | ⟨c1⟩
      all_goals
        rcases hkk with ⟨hk1, hkb⟩ | ⟨hk1, hkb⟩
        all_goals
          try (have he := HEQ.out (by omega))
          try (have hd1 : decide (((s[k]'hlt).toNat : Int) ≤ 90) = false := by rw [decide_eq_false_iff_not]; omega)
          try (have hd2 : decide (((s[k]'hlt).toNat : Int) ≤ 122) = false := by rw [decide_eq_false_iff_not]; omega)
          try (have hd3 : decide (((s[k]'hlt).toNat : Int) ≤ 57) = false := by rw [decide_eq_false_iff_not]; omega)
          have hkb2 := hkb.out
          first
          | omega
          | (obtain rfl : F = false := ST.out (by unfold okc letter digit; simp; omega)
             go_wp2_with fail
             all_goals
               go_ret
               exact ⟨rfl, rfl⟩)
          | (have hn := NX.out (by unfold okc letter digit; first | (simp; done) | (simp; omega))
             have HN := Lib.hid hn
             clear hn
             go_wp2_with fail
             all_goals
               go_roundg (s.size - (k + 1))
               case measure => have := hE.out; omega
               case rel => exact ⟨k + 1, by show _ = _; omega, by omega, by go_num, HN.out, rfl⟩)
    · obtain rfl : k = s.size := by omega
      have hT : F = (decide (1 ≤ s.size) && decide (s.size ≤ 32)) := by
        rw [← HF.out]
        by_cases a : 1 ≤ s.size
        · by_cases b : s.size ≤ 32
          · rw [fitN_good a b HJ.out]; simp [a, b]
          · rw [fitN_long (by omega)]; simp; omega
        · rw [fitN_short (by omega)]; simp; omega
      have hl := HS.out
      by_cases a : 1 ≤ s.size
      · by_cases b : s.size ≤ 32
        · obtain rfl : F = true := by rw [hT]; simp [a, b]
          clear hT
          go_wp2_with fail
          go_ret
          exact ⟨ret_bool (by first | rfl | (simp; omega)), rfl⟩
        · obtain rfl : F = false := by rw [hT]; simp; omega
          clear hT
          go_wp2_with fail
          go_ret
          exact ⟨ret_bool (by first | rfl | (simp; omega)), rfl⟩
      · obtain rfl : F = false := by rw [hT]; simp; omega
        clear hT
        go_wp2_with fail
        go_ret
        exact ⟨ret_bool (by first | rfl | (simp; omega)), rfl⟩

theorem refFitValue_any (s : ByteArray) (hs : s.size < 4611686018427387904) (w : World) :
    Calls Try.prog 45 #[.string s] w fun e w' => e = .returned (.bool (fitV s)) ∧ w = w' := by
  unfold fitV
  by_cases a : 1 ≤ s.size
  · by_cases b : s.size ≤ 64
    · rw [(by simp [a, b] : (decide (1 ≤ s.size) && decide (s.size ≤ 64)) = true)]
      go_enter Try.func45, Try.ntmps45
      go_wp2_with fail
      go_ret
      exact ⟨ret_bool (by first | rfl | (simp; omega)), rfl⟩
    · rw [(by simp; omega : (decide (1 ≤ s.size) && decide (s.size ≤ 64)) = false)]
      go_enter Try.func45, Try.ntmps45
      go_wp2_with fail
      go_ret
      exact ⟨ret_bool (by first | rfl | (simp; omega)), rfl⟩
  · rw [(by simp; omega : (decide (1 ≤ s.size) && decide (s.size ≤ 64)) = false)]
    go_enter Try.func45, Try.ntmps45
    go_wp2_with fail
    go_ret
    exact ⟨ret_bool (by first | rfl | (simp; omega)), rfl⟩

theorem checkCount_any (k : Nat) (hk : k < 18446744073709551616) (w : World) :
    Calls Try.prog 74 #[.int .u64 (k : Int)] w fun e w' => e = .returned (.int .i64 (cntE k : Int)) ∧ w = w' := by
  have HK := Lib.hid hk
  clear hk
  by_cases a : k = 0
  · rw [(by unfold cntE; rw [if_pos a] : cntE k = 43)]
    subst a
    go_enter Try.func74, Try.ntmps74
    go_wp2_with fail
    go_ret
    exact ⟨rfl, rfl⟩
  · have h0 : ((k : Int) == 0) = false := by rw [beq_eq_false_iff_ne]; omega
    by_cases b : 8 < k
    · rw [(by unfold cntE; rw [if_neg a, if_pos b] : cntE k = 44)]
      go_enter Try.func74, Try.ntmps74
      go_wp2_with fail
      go_ret
      exact ⟨rfl, rfl⟩
    · rw [(by unfold cntE; rw [if_neg a, if_neg b] : cntE k = 0)]
      go_enter Try.func74, Try.ntmps74
      go_wp2_with fail
      go_ret
      exact ⟨rfl, rfl⟩

theorem checkLabel_any (x : Lab) (w : World) :
    Calls Try.prog 75 #[x.val] w fun e w' => e = .returned (.int .i64 (labE x : Int)) ∧ Below w.heap.size w w' := by
  obtain ⟨n, v⟩ := x
  unfold labE Lab.val
  have HN := fun W => isName_any n W
  generalize fitN n = F at *
  have HH := Lib.hid HN
  clear HN
  cases F
  · rw [if_pos rfl]
    go_enter Try.func75, Try.ntmps75
    go_wp2_with (go_at_call 90; refine (HH.out _).mono ?_; rintro e w' ⟨rfl, rfl⟩)
    go_ret
    exact ⟨rfl, below_alloc _ _⟩
  · rw [if_neg (by decide)]
    by_cases a : v.size = 0
    · rw [if_pos (by unfold fitV; simp; omega)]
      have hs := toList_nil a
      have hs2 : v.toList.isEmpty = true := by rw [hs]; rfl
      go_enter Try.func75, Try.ntmps75
      go_wp2_with (go_at_call 90; refine (HH.out _).mono ?_; rintro e w' ⟨rfl, rfl⟩)
      go_ret
      exact ⟨rfl, below_alloc _ _⟩
    · have hs := toList_cons a
      have hs2 : v.toList.isEmpty = false := by rw [isEmpty_iff]; simpa using a
      by_cases b : 64 < v.size
      · rw [if_pos (by unfold fitV; simp; omega)]
        go_enter Try.func75, Try.ntmps75
        go_wp2_with (go_at_call 90; refine (HH.out _).mono ?_; rintro e w' ⟨rfl, rfl⟩)
        go_ret
        exact ⟨rfl, below_alloc _ _⟩
      · rw [if_neg (by unfold fitV; simp; omega)]
        go_enter Try.func75, Try.ntmps75
        go_wp2_with (go_at_call 90; refine (HH.out _).mono ?_; rintro e w' ⟨rfl, rfl⟩)
        go_ret
        exact ⟨rfl, below_alloc _ _⟩

end Go.Proofs.Ytcpkogboaniehaa.Lab
