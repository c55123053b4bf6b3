/-
  A set out of its text: contracts of readList, Read. Own text.
-/
import Derived.Test.YtlolhbhanjhkbaaLRead
namespace Go.Proofs.Ytlolhbhanjhkbaa.Lab
open Go.RowKit Go Go.Proofs.Ytlolhbhanjhkbaa.Base Go.Shelf Go.Sort

/-- at most c labels that are read from place a on, behind acc, up to the text's end -/
def rlR (s : ByteArray) : Nat → Nat → List Lab → Option (List Lab)
  | 0, _, _ => none
  | c + 1, a, acc => match shown s a with
    | none => none
    | some p => if p.2 = s.size then some (acc ++ [p.1]) else if at8 s p.2 ≠ 44 then none else rlR s c (p.2 + 1) (acc ++ [p.1])
def readL (s : ByteArray) : Option (List Lab) := rlR s 8 0 []
/-- what Read answers: the set, the error -/
def readS (s : ByteArray) : List Lab := match readL s with
  | none => []
  | some l => if validB l = true then l else []
def readE (s : ByteArray) : Nat := match readL s with
  | none => 21
  | some l => if validB l = true then 0 else 21

theorem shown_le {s : ByteArray} {a n : Nat} {x : Lab} (h : shown s a = some (x, n)) : a < n ∧ n ≤ s.size := by
  unfold shown at h
  split at h
  · cases h
  · cases hu : unq s ((fq s a : Int) + 1) with
    | none => rw [hu] at h; cases h
    | some p =>
      rw [hu] at h
      simp only [Option.map_some, Option.some.injEq, Prod.mk.injEq] at h
      obtain ⟨l, m⟩ := p
      have := unq_le hu
      have hge : a ≤ fq s a := by unfold fq; omega
      simp only at h
      omega
theorem rlR_len {s : ByteArray} : ∀ {c a : Nat} {acc l : List Lab}, rlR s c a acc = some l → l.length ≤ acc.length + c
  | 0, a, acc, l, h => by rw [rlR] at h; cases h
  | c + 1, a, acc, l, h => by
    rw [rlR] at h
    cases hs : shown s a with
    | none => rw [hs] at h; cases h
    | some p =>
      rw [hs] at h
      simp only at h
      split at h
      · injection h with h; rw [← h, List.length_append]; simp
      · split at h
        · cases h
        · have := rlR_len h
          rw [List.length_append] at this
          simp only [List.length_cons, List.length_nil] at this
          omega

set_option maxRecDepth 100000 in
set_option maxHeartbeats 4000000 in
theorem readList_any (s : ByteArray) (hs : s.size ≤ 140737488351232) (w : World) :
    Calls Try.prog 53 #[.string s] w fun e w' => ∃ v, e = .returned (.tuple #[v, .bool (readL s).isSome]) ∧ LabRow 62 w w' v ((readL s).getD []) := by
  obtain ⟨R, hR⟩ : ∃ R, rlR s 8 0 [] = R := ⟨_, rfl⟩
  rw [show readL s = R from hR]
  have HR := Lib.hid hR
  have hsh := fun (a : Nat) (ha : a ≤ s.size) (W : World) => shown_any s a ha hs W
  have HSH := Lib.hid hsh
  clear hsh hR
  go_enter Try.func53, Try.ntmps53
  go_wp2_with fail
  go_loopg [4, 5] 8 (fun r q i wr => ∃ (k a n cap : Nat) (ao : Option Addr) (S : List Lab), Hid (k + r = 8) ∧ k ≤ 8 ∧ a ≤ s.size ∧ i = .int .i64 (a : Int) ∧ q = .slice ao n cap ∧ Hid (n = k) ∧ Hid (S.length = n) ∧ Hid (rlR s r a S = R) ∧ Hid (LabRow 62 w wr q S))
  case atStart => exact ⟨0, 0, 0, 0, none, [], rfl, by omega, Nat.zero_le _, rfl, rfl, rfl, rfl, HR.out, LabRow.nil _ w⟩
  case round =>
    obtain ⟨k, a, n, cap, ao, S, hE, hk, ha, rfl, rfl, HN, HSL, HRL, HS⟩ := hrel
    have hn8 : n ≤ 8 := by rw [HN.out]; exact hk
    by_cases hlt : k < 8
    · obtain ⟨t, rfl⟩ : ∃ t, gk = t + 1 := ⟨gk - 1, by have := hE.out; omega⟩
      have hrl := HRL.out
      have hsa := fun W => HSH.out a ha W
      have hn7 : n < 8 := by rw [HN.out]; exact hlt
      cases hsh : shown s a with
      | none =>
        rw [hsh] at hsa
        rw [rlR, hsh] at hrl
        simp only at hrl
        subst hrl
        simp only [Option.isSome_none] at hsa
        have HSA := Lib.hid hsa
        clear hsa hsh
        go_wp2_with (go_at_call 69; (refine (HSA.out _).mono ?_; rintro e w2 ⟨⟨⟨xn, xv⟩, m, rfl, _⟩, hb2⟩; simp only [Lab.val]))
        go_ret2
        exact ⟨_, rfl, le_below (le_below HS.out.below hb2) (below_alloc _ _), World.ownsRow_nil _ _ _ _, fun k hk => by cases hk⟩
      | some p =>
        obtain ⟨X, m⟩ := p
        obtain ⟨z1, z2⟩ := shown_le hsh
        rw [hsh] at hsa
        rw [rlR, hsh] at hrl
        simp only at hrl
        simp only [Option.isSome_some] at hsa
        have hsa2 : ∀ W, Calls Try.prog 69 #[.string s, .int .i64 (a : Int)] W fun e w' => e = .returned (.tuple #[X.val, .int .i64 (m : Int), .bool true]) ∧ Below W.heap.size W w' := fun W => (hsa W).mono fun e w' ⟨⟨X', N', he, hx⟩, hb⟩ => by
          obtain ⟨h1, h2⟩ := hx X m rfl
          rw [h1, h2] at he
          exact ⟨he, hb⟩
        obtain ⟨xn, xv⟩ := X
        simp only [Lab.val] at hsa2
        have hap : ∀ W, Below wr.heap.size wr W → ∃ ao' cap' w9, (Builtin.append_ #[22, 22] 22 #[.slice ao n cap, .slice (some ⟨W.heap.size + 1, 0, none⟩) 1 1]).run Try.prog ((W.alloc (.cells #[.string xn, .string xv] 62)).alloc (.cells #[.string xn, .string xv] 62)) = .ok (.slice ao' (n + 1) cap') w9 ∧ LabRow 62 w w9 (.slice ao' (n + 1) cap') (S ++ [Lab.mk xn xv]) := fun W hW => by
          have hsrc : Src Try.prog 2 22 (.slice (some ⟨W.heap.size + 1, 0, none⟩) 1 1) 1 (cellsL [Lab.mk xn xv]) ((W.alloc (.cells #[.string xn, .string xv] 62)).alloc (.cells #[.string xn, .string xv] 62)) := by
            refine Src.ofSlice _ Try.underlying22 _ 1 1 _ rfl ?_ (cellsL_one _)
            intro j u hu
            rw [Go.WideShapes.add_plain, Nat.zero_add]
            exact cell_new (by rw [World.size_alloc]) (by simpa [cellsL, Lab.cells] using hu)
          obtain ⟨ao', cap', w9, h1, h2⟩ := LabRow.append Try.underlying22 lab_info HS.out (le_below (le_below hW (below_alloc _ _)) (below_alloc _ _)) _ [Lab.mk xn xv] hsrc (by rw [HSL.out]; simp only [List.length_cons, List.length_nil]; omega)
          rw [HSL.out] at h1 h2
          exact ⟨ao', cap', w9, h1, h2⟩
        have HAP := Lib.hid hap
        have HSA := Lib.hid hsa2
        clear hsa hsa2 hap hsh
        by_cases e0 : m = s.size
        · rw [if_pos e0] at hrl
          subst hrl
          have e1 : ((m : Int) == (s.size : Int)) = true := by rw [beq_iff_eq]; omega
          clear e0
          go_wp2_with (first
            | (go_at_call 69; (refine (HSA.out _).mono ?_; rintro e w2 ⟨rfl, hb2⟩; obtain ⟨ao', cap', w9, hrun, hR9⟩ := HAP.out _ hb2; have HRun := Lib.hid hrun; have HR9 := Lib.hid hR9; clear hrun hR9))
            | (at_builtin; refine Row.append_by rfl (.tmp 21) (.tmp 23) _ rfl _ _ rfl rfl HRun.out ?_))
          go_ret2
          exact ⟨_, rfl, HR9.out⟩
        · rw [if_neg e0] at hrl
          have e1 : ((m : Int) == (s.size : Int)) = false := by rw [beq_eq_false_iff_ne]; omega
          have hm : m < s.size := by omega
          have hm8 := at8_eq s m hm
          by_cases c0 : at8 s m = 44
          · rw [if_neg (fun h => h c0)] at hrl
            have e2 : ((s[m].toNat : Int) != 44) = false := by
              have : (s[m].toNat : Int) = 44 := by omega
              rw [this]; rfl
            have HRL2 := Lib.hid hrl
            clear e0 c0 hm8 hrl
            go_wp2_with (first
              | (go_at_call 69; (refine (HSA.out _).mono ?_; rintro e w2 ⟨rfl, hb2⟩; obtain ⟨ao', cap', w9, hrun, hR9⟩ := HAP.out _ hb2; have HRun := Lib.hid hrun; have HR9 := Lib.hid hR9; clear hrun hR9))
              | (at_builtin; refine Row.append_by rfl (.tmp 21) (.tmp 23) _ rfl _ _ rfl rfl HRun.out ?_))
            go_roundg t
            case measure => omega
            case rel => exact ⟨k + 1, m + 1, n + 1, cap', ao', S ++ [Lab.mk xn xv], by show _ = _; have := hE.out; omega, by omega, by omega, by first | rfl | go_num, rfl, by show _ = _; have := HN.out; omega, by show _ = _; rw [List.length_append, HSL.out]; rfl, HRL2.out, HR9.out⟩
          · rw [if_pos c0] at hrl
            subst hrl
            have e2 : ((s[m].toNat : Int) != 44) = true := by rw [bne_iff_ne]; omega
            clear e0 c0 hm8
            go_wp2_with (first
              | (go_at_call 69; (refine (HSA.out _).mono ?_; rintro e w2 ⟨rfl, hb2⟩; obtain ⟨ao', cap', w9, hrun, hR9⟩ := HAP.out _ hb2; have HRun := Lib.hid hrun; have HR9 := Lib.hid hR9; clear hrun hR9))
              | (at_builtin; refine Row.append_by rfl (.tmp 21) (.tmp 23) _ rfl _ _ rfl rfl HRun.out ?_))
            go_ret2
            exact ⟨_, rfl, HR9.out.below, World.ownsRow_nil _ _ _ _, fun k hk => by cases hk⟩
    · obtain rfl : k = 8 := by omega
      obtain rfl : gk = 0 := by have := hE.out; omega
      obtain rfl : n = 8 := HN.out
      have hrl := HRL.out
      rw [rlR] at hrl
      subst hrl
      go_wp2_with fail
      go_ret2
      exact ⟨_, rfl, HS.out.below, World.ownsRow_nil _ _ _ _, fun k hk => by cases hk⟩

set_option maxRecDepth 100000 in
set_option maxHeartbeats 1000000 in
theorem read_any (s : ByteArray) (hs : s.size ≤ 140737488351232) (w : World) :
    Calls Try.prog 29 #[.string s] w fun e w' => ∃ v, e = .returned (.tuple #[v, .int .i64 (readE s : Int)]) ∧ LabRow 62 w w' v (readS s) := by
  have h1 := readList_any s hs w
  unfold readE readS
  cases hl : readL s with
  | none =>
    rw [hl] at h1
    simp only [Option.isSome_none, Option.getD_none] at h1
    have H1 := Lib.hid h1
    clear h1 hl
    simp only
    go_enter Try.func29, Try.ntmps29
    go_wp2_with (go_at_call 53; (refine H1.out.mono ?_; rintro e w2 ⟨v, rfl, hrow⟩; have HB := Lib.hid hrow.below; clear hrow))
    go_ret2
    exact ⟨_, rfl, HB.out, World.ownsRow_nil _ _ _ _, fun k hk => by cases hk⟩
  | some l =>
    rw [hl] at h1
    simp only [Option.isSome_some, Option.getD_some] at h1
    have hll := rlR_len hl
    simp only [List.length_nil] at hll
    have hv := fun (W : World) (x : Option Addr) (cx : Nat) (hc : l.length ≤ cx) (hx : LabsAt W x l) => valid_any x cx l W (by omega) hc hx
    have H1 := Lib.hid h1
    clear h1 hl hll
    simp only
    cases hvb : validB l
    · rw [hvb] at hv
      rw [if_neg (by decide), if_neg (by decide)]
      have HV := Lib.hid hv
      clear hv hvb
      go_enter Try.func29, Try.ntmps29
      go_wp2_with (first
        | (go_at_call 53; (refine H1.out.mono ?_; rintro e w2 ⟨v, rfl, hrow⟩; obtain ⟨ao, cap, rfl, hc, hlab⟩ := hrow.labs; have HB := Lib.hid hrow.below; have HC := Lib.hid hc; have HL := Lib.hid hlab; clear hrow hc hlab))
        | (go_at_call 19; (refine (HV.out _ _ _ HC.out HL.out).mono ?_; rintro e w3 ⟨rfl, hb3⟩)))
      go_ret2
      exact ⟨_, rfl, le_below HB.out hb3, World.ownsRow_nil _ _ _ _, fun k hk => by cases hk⟩
    · rw [hvb] at hv
      rw [if_pos rfl, if_pos rfl]
      have HV := Lib.hid hv
      clear hv hvb
      go_enter Try.func29, Try.ntmps29
      go_wp2_with (first
        | (go_at_call 53; (refine H1.out.mono ?_; rintro e w2 ⟨v, rfl, hrow⟩; obtain ⟨ao, cap, rfl, hc, hlab⟩ := hrow.labs; have HROW := Lib.hid hrow; have HC := Lib.hid hc; have HL := Lib.hid hlab; clear hrow hc hlab))
        | (go_at_call 19; (refine (HV.out _ _ _ HC.out HL.out).mono ?_; rintro e w3 ⟨rfl, hb3⟩)))
      go_ret2
      exact ⟨_, rfl, HROW.out.kept hb3⟩
end Go.Proofs.Ytlolhbhanjhkbaa.Lab
