/-
The document's answer for tables: contracts of merge, Of. Own text.
  The document's answer for tables: contract of Of. Own text.
-/
import Derived.Test.YtcpkogboaniehaaSRef
namespace Go.Proofs.Ytcpkogboaniehaa.Sym
open Go.RowKit Go Go.Proofs.Ytcpkogboaniehaa.Base Go.Proofs.Ytcpkogboaniehaa.Lab Go.Shelf Go.Sort

theorem drop_at {l : List ByteArray} {k : Nat} (h : k < l.length) : l.drop k = l[k]! :: l.drop (k + 1) := by
  rw [List.drop_eq_getElem_cons h, getElem!_pos l k h]
theorem drop_lt {l : List ByteArray} (hr : Ris l) {k : Nat} (h : k < l.length) : ∀ y ∈ l.drop (k + 1), cmpS l[k]! y < 0 := by
  have h2 : Ris (l.drop k) := List.Pairwise.sublist (List.drop_sublist _ _) hr
  rw [drop_at h] at h2
  exact (List.pairwise_cons.1 h2).1
/-- a's text is the lowest -/
theorem step_a {a b : List ByteArray} (ha : Ris a) {i k : Nat} (hi : i < a.length) (h : ∀ y ∈ b.drop k, cmpS a[i]! y < 0) : tab (a.drop i ++ b.drop k) = a[i]! :: tab (a.drop (i + 1) ++ b.drop k) := by
  refine tab_head (fun y => ?_) (fun y hy => ?_)
  · rw [drop_at hi]; simp
  · rcases List.mem_append.1 hy with hy | hy
    · exact drop_lt ha hi y hy
    · exact h y hy
theorem step_b {a b : List ByteArray} (hb : Ris b) {i k : Nat} (hk : k < b.length) (h : ∀ y ∈ a.drop i, cmpS b[k]! y < 0) : tab (a.drop i ++ b.drop k) = b[k]! :: tab (a.drop i ++ b.drop (k + 1)) := by
  refine tab_head (fun y => ?_) (fun y hy => ?_)
  · rw [drop_at hk]; simp only [List.mem_append, List.mem_cons]; constructor
    · rintro (h | h | h)
      · exact .inr (.inl h)
      · exact .inl h
      · exact .inr (.inr h)
    · rintro (h | h | h)
      · exact .inr (.inl h)
      · exact .inl h
      · exact .inr (.inr h)
  · rcases List.mem_append.1 hy with hy | hy
    · exact h y hy
    · exact drop_lt hb hk y hy
theorem step_ab {a b : List ByteArray} (ha : Ris a) (hb : Ris b) {i k : Nat} (hi : i < a.length) (hk : k < b.length) (he : a[i]! = b[k]!) : tab (a.drop i ++ b.drop k) = b[k]! :: tab (a.drop (i + 1) ++ b.drop (k + 1)) := by
  refine tab_head (fun y => ?_) (fun y hy => ?_)
  · rw [drop_at hi, drop_at hk, he]
    simp only [List.mem_append, List.mem_cons]
    constructor
    · rintro ((h | h) | h | h)
      · exact .inl h
      · exact .inr (.inl h)
      · exact .inl h
      · exact .inr (.inr h)
    · rintro (h | h | h)
      · exact .inl (.inl h)
      · exact .inl (.inr h)
      · exact .inr (.inr h)
  · rcases List.mem_append.1 hy with hy | hy
    · rw [← he]; exact drop_lt ha hi y hy
    · exact drop_lt hb hk y hy
theorem all_below {b : List ByteArray} (hb : Ris b) {k : Nat} (hk : k < b.length) {x : ByteArray} (h : cmpS x b[k]! < 0) : ∀ y ∈ b.drop k, cmpS x y < 0 := by
  intro y hy
  rw [drop_at hk] at hy
  rcases List.mem_cons.1 hy with rfl | hy
  · exact h
  · exact cmpS_ord.lt_le h (by have := drop_lt hb hk y hy; omega)
theorem none_below {b : List ByteArray} {k : Nat} (hk : ¬ k < b.length) {x : ByteArray} : ∀ y ∈ b.drop k, cmpS x y < 0 := by
  intro y hy
  rw [List.drop_eq_nil_of_le (by omega)] at hy
  cases hy

/-- one more text behind those that are there, in whatever later world without new blocks -/
theorem StrRow.one {w wr : World} {ao : Option Addr} {n cap : Nat} {S : List ByteArray} (h : StrRow w wr (.slice ao n cap) S) (hn : S.length = n) (x : ByteArray) (hl : (n + 1) * 16 ≤ 140737488355328) (W : World) (hW : Below wr.heap.size wr W) (hs : W.heap.size = wr.heap.size) :
    ∃ ao' cap' w', (Builtin.append_ #[22, 22] 22 #[.slice ao n cap, .slice (some ⟨wr.heap.size, 0, none⟩) 1 1]).run Try.prog (W.alloc (.cells #[.string x] 9)) = .ok (.slice ao' (n + 1) cap') w' ∧ StrRow w w' (.slice ao' (n + 1) cap') (S ++ [x]) := by
  obtain ⟨ao', cap', w', h1, h2⟩ := h.append (hW.trans ((below_alloc W _).mono hW.size)) _ [x] (src_one W x) (by rw [hn]; exact hl)
  rw [hn] at h1 h2
  rw [hs] at h1
  exact ⟨ao', cap', w', h1, h2⟩
theorem drewN_one {w : World} (n : Nat) : Below w.heap.size w (w.drewN n) := below_drewN (Below.refl _ _) n
theorem drewN_two {w : World} (n m : Nat) : Below w.heap.size w ((w.drewN n).drewN m) := below_drewN (drewN_one n) m

set_option maxRecDepth 100000 in
set_option maxHeartbeats 4000000 in
theorem merge_any (ao bo : Option Addr) (ca cb : Nat) (a b : List ByteArray) (w : World) (hl : (a.length + b.length) * 16 ≤ 140737488355328) (hA : TextsAt w ao a) (hBb : TextsAt w bo b) (ha : Ris a) (hb : Ris b) :
    Calls Try.prog 31 #[.slice ao a.length ca, .slice bo b.length cb] w fun e w' => ∃ v, e = .returned v ∧ StrRow w w' v (tab (a ++ b)) := by
  obtain ⟨R, hR⟩ : ∃ R, tab (a ++ b) = R := ⟨_, rfl⟩
  have hR0 : [] ++ tab (a.drop 0 ++ b.drop 0) = R := by simpa using hR
  rw [hR]
  have HR0 := Lib.hid hR0
  have HL := Lib.hid hl
  have HA := Lib.hid hA
  have HBB := Lib.hid hBb
  have RA := Lib.hid ha
  have RB := Lib.hid hb
  clear hR hR0 hl hA hBb ha hb
  go_enter Try.func31, Try.ntmps31
  go_wp2_with fail
  go_loopg [5, 6, 7] (a.length + b.length) (fun g q si sk wr => ∃ (i k n cap : Nat) (so : Option Addr) (S : List ByteArray), q = .slice so n cap ∧ si = .int .i64 (i : Int) ∧ sk = .int .i64 (k : Int) ∧ i ≤ a.length ∧ k ≤ b.length ∧ Hid (a.length - i + (b.length - k) ≤ g) ∧ Hid (n ≤ i + k) ∧ Hid (S.length = n) ∧ Hid (S ++ tab (a.drop i ++ b.drop k) = R) ∧ Hid (StrRow w wr (.slice so n cap) S))
  case atStart => exact ⟨0, 0, 0, 0, none, [], rfl, rfl, rfl, Nat.zero_le _, Nat.zero_le _, by show _ ≤ _; omega, by show _ ≤ _; omega, rfl, HR0.out, StrRow.nil w⟩
  case round =>
    obtain ⟨i, k, n, cap, so, S, rfl, rfl, rfl, hi, hk, HG, HN, HS, HE, HRow⟩ := hrel
    have hla : a.length < 4611686018427387904 := by have := HL.out; omega
    have hlb : b.length < 4611686018427387904 := by have := HL.out; omega
    have HTA := Lib.hid (HA.out.below HRow.out.below (Nat.le_refl _))
    have HTB := Lib.hid (HBB.out.below HRow.out.below (Nat.le_refl _))
    by_cases hik : i < a.length
    · obtain ⟨b1, o1, rfl, _, hc1⟩ := HTA.out i hik
      by_cases hkk : k < b.length
      · obtain ⟨b2, o2, rfl, _, hc2⟩ := HTB.out k hkk
        have e1 := fun h => step_a (b := b) (k := k) RA.out hik h
        have e2 := fun h => step_b (a := a) (i := i) RB.out hkk h
        have e3 := fun h => step_ab RA.out RB.out hik hkk h
        have f1 := fun x h => all_below (x := x) RB.out hkk h
        have f2 := fun x h => all_below (x := x) RA.out hik h
        have hap1 := HRow.out.one HS.out a[i]! (by have := HN.out; have := HL.out; omega)
        have hap2 := HRow.out.one HS.out b[k]! (by have := HN.out; have := HL.out; omega)
        have hcmp := cmp3 a[i]! b[k]!
        have hsw := cmpS_ord.swap a[i]! b[k]!
        generalize a[i]! = x at *
        generalize b[k]! = y at *
        rcases hcmp with ⟨c1, c2, c3, c4, c5⟩ | ⟨c1, c2, c3, c4, c5⟩ | ⟨c1, c2, c3, c4, c5⟩
        · have hE := HE.out
          rw [e1 (f1 x (by omega))] at hE
          have HAP := Lib.hid hap1
          have HE2 := Lib.hid hE
          clear hE hap1 e1 e2 e3 f1 f2 hap2 hsw c1 c5
          go_wp2_with fail
          go_quiet (fail)
          rename Nat => n1
          obtain ⟨so', cap', w', hrun, hrow⟩ := HAP.out (wr.drewN n1) (drewN_one _) rfl
          have HRun := Lib.hid hrun
          have HRow2 := Lib.hid hrow
          clear hrun hrow HAP
          go_wp2_with (at_builtin; refine Row.append_by rfl (.tmp 39) (.tmp 44) _ rfl _ _ rfl rfl HRun.out ?_)
          go_roundg (a.length - (i + 1) + (b.length - k))
          case measure => have := HG.out; omega
          case rel => exact ⟨i + 1, k, n + 1, cap', so', S ++ [x], rfl, by go_num, rfl, by omega, hk, by show _ ≤ _; omega, by show _ ≤ _; have := HN.out; omega, by show _ = _; rw [List.length_append, HS.out]; rfl, by show _ = _; rw [← HE2.out]; simp, HRow2.out⟩
        · have hE := HE.out
          rw [e3 c5] at hE
          have HAP := Lib.hid hap2
          have HE2 := Lib.hid hE
          clear hE hap2 e1 e2 e3 f1 f2 hap1 hsw c1 c5
          go_wp2_with fail
          go_quiet (fail)
          rename Nat => n1
          go_wp2_with fail
          go_quiet (fail)
          rename Nat => n2
          obtain ⟨so', cap', w', hrun, hrow⟩ := HAP.out (wr.drewN (n1 + n2)) (drewN_one _) rfl
          have HRun := Lib.hid hrun
          have HRow2 := Lib.hid hrow
          clear hrun hrow HAP
          go_wp2_with (at_builtin; refine Row.append_by rfl (.tmp 65) (.tmp 70) _ rfl _ _ rfl rfl HRun.out ?_)
          go_roundg (a.length - (i + 1) + (b.length - (k + 1)))
          case measure => have := HG.out; omega
          case rel => exact ⟨i + 1, k + 1, n + 1, cap', so', S ++ [y], rfl, by go_num, by go_num, by omega, by omega, by show _ ≤ _; omega, by show _ ≤ _; have := HN.out; omega, by show _ = _; rw [List.length_append, HS.out]; rfl, by show _ = _; rw [← HE2.out]; simp, HRow2.out⟩
        · have hE := HE.out
          rw [e2 (f2 y (by omega))] at hE
          have HAP := Lib.hid hap2
          have HE2 := Lib.hid hE
          clear hE hap2 e1 e2 e3 f1 f2 hap1 hsw c1 c5
          go_wp2_with fail
          go_quiet (fail)
          rename Nat => n1
          go_wp2_with fail
          go_quiet (fail)
          rename Nat => n2
          obtain ⟨so', cap', w', hrun, hrow⟩ := HAP.out (wr.drewN (n1 + n2)) (drewN_one _) rfl
          have HRun := Lib.hid hrun
          have HRow2 := Lib.hid hrow
          clear hrun hrow HAP
          go_wp2_with (at_builtin; refine Row.append_by rfl (.tmp 65) (.tmp 70) _ rfl _ _ rfl rfl HRun.out ?_)
          go_roundg (a.length - i + (b.length - (k + 1)))
          case measure => have := HG.out; omega
          case rel => exact ⟨i, k + 1, n + 1, cap', so', S ++ [y], rfl, rfl, by go_num, hi, by omega, by show _ ≤ _; omega, by show _ ≤ _; have := HN.out; omega, by show _ = _; rw [List.length_append, HS.out]; rfl, by show _ = _; rw [← HE2.out]; simp, HRow2.out⟩
      · have hE := HE.out
        rw [step_a RA.out hik (none_below hkk)] at hE
        have hap1 := HRow.out.one HS.out a[i]! (by have := HN.out; have := HL.out; omega)
        generalize a[i]! = x at *
        have HAP := Lib.hid hap1
        have HE2 := Lib.hid hE
        have hge : (b.length : Int) ≤ (k : Int) := by omega
        clear hE hap1
        go_wp2_with fail
        go_quiet (fail)
        rename Nat => n1
        obtain ⟨so', cap', w', hrun, hrow⟩ := HAP.out (wr.drewN n1) (drewN_one _) rfl
        have HRun := Lib.hid hrun
        have HRow2 := Lib.hid hrow
        clear hrun hrow HAP
        go_wp2_with (at_builtin; refine Row.append_by rfl (.tmp 39) (.tmp 44) _ rfl _ _ rfl rfl HRun.out ?_)
        go_roundg (a.length - (i + 1) + (b.length - k))
        case measure => have := HG.out; omega
        case rel => exact ⟨i + 1, k, n + 1, cap', so', S ++ [x], rfl, by go_num, rfl, by omega, hk, by show _ ≤ _; omega, by show _ ≤ _; have := HN.out; omega, by show _ = _; rw [List.length_append, HS.out]; rfl, by show _ = _; rw [← HE2.out]; simp, HRow2.out⟩
    · by_cases hkk : k < b.length
      · obtain ⟨b2, o2, rfl, _, hc2⟩ := HTB.out k hkk
        have hE := HE.out
        rw [step_b RB.out hkk (none_below hik)] at hE
        have hap2 := HRow.out.one HS.out b[k]! (by have := HN.out; have := HL.out; omega)
        generalize b[k]! = y at *
        obtain rfl : i = a.length := by omega
        have HAP := Lib.hid hap2
        have HE2 := Lib.hid hE
        clear hE hap2 hik hi
        go_wp2_with fail
        have hq1 : ((a.length : Nat) : Int) < ((a.length : Nat) : Int) ↔ False := ⟨fun h => absurd h (Int.lt_irrefl _), False.elim⟩
        have hq2 : ¬ ((b.length : Nat) : Int) ≤ (k : Int) := by omega
        have hq3 : ¬ (b.length ≤ k) := by omega
        clear HA HTA
        cases ao with
        | none =>
          go_quiet (fail)
          rename Nat => n1
          go_wp2_with fail
          go_quiet (fail)
          rename Nat => n2
          obtain ⟨so', cap', w', hrun, hrow⟩ := HAP.out (wr.drewN (n1 + n2)) (drewN_one _) rfl
          have HRun := Lib.hid hrun
          have HRow2 := Lib.hid hrow
          clear hrun hrow HAP
          go_wp2_with (at_builtin; refine Row.append_by rfl (.tmp 65) (.tmp 70) _ rfl _ _ rfl rfl HRun.out ?_)
          go_roundg (a.length - a.length + (b.length - (k + 1)))
          case measure => have := HG.out; omega
          case rel => exact ⟨a.length, k + 1, n + 1, cap', so', S ++ [y], rfl, rfl, by go_num, Nat.le_refl _, by omega, by show _ ≤ _; omega, by show _ ≤ _; have := HN.out; omega, by show _ = _; rw [List.length_append, HS.out]; rfl, by show _ = _; rw [← HE2.out]; simp, HRow2.out⟩
        | some a0 =>
          go_quiet (fail)
          rename Nat => n1
          go_wp2_with fail
          go_quiet (fail)
          rename Nat => n2
          obtain ⟨so', cap', w', hrun, hrow⟩ := HAP.out (wr.drewN (n1 + n2)) (drewN_one _) rfl
          have HRun := Lib.hid hrun
          have HRow2 := Lib.hid hrow
          clear hrun hrow HAP
          go_wp2_with (at_builtin; refine Row.append_by rfl (.tmp 65) (.tmp 70) _ rfl _ _ rfl rfl HRun.out ?_)
          go_roundg (a.length - a.length + (b.length - (k + 1)))
          case measure => have := HG.out; omega
          case rel => exact ⟨a.length, k + 1, n + 1, cap', so', S ++ [y], rfl, rfl, by go_num, Nat.le_refl _, by omega, by show _ ≤ _; omega, by show _ ≤ _; have := HN.out; omega, by show _ = _; rw [List.length_append, HS.out]; rfl, by show _ = _; rw [← HE2.out]; simp, HRow2.out⟩
      · obtain rfl : i = a.length := by omega
        obtain rfl : k = b.length := by omega
        have hE := HE.out
        rw [List.drop_length, List.drop_length] at hE
        simp only [List.append_nil, tab, List.foldr_nil] at hE
        subst hE
        go_wp2_with fail
        go_ret
        exact ⟨_, rfl, HRow.out⟩

end Go.Proofs.Ytcpkogboaniehaa.Sym
namespace Go.Proofs.Ytcpkogboaniehaa.Sym
open Go.RowKit Go Go.Proofs.Ytcpkogboaniehaa.Base Go.Proofs.Ytcpkogboaniehaa.Lab Go.Shelf Go.Sort

theorem TextsAt.take {w : World} {b off : Nat} {l : List ByteArray} (h : TextsAt w (some ⟨b, off, none⟩) l) (k : Nat) : TextsAt w (some ⟨b, off, none⟩) (l.take k) := fun j hj => by
  rw [List.length_take] at hj
  obtain ⟨b', off', e, h2, h3⟩ := h j (by omega)
  refine ⟨b', off', e, h2, ?_⟩
  rw [h3, getElem!_pos (l.take k) j (by rw [List.length_take]; omega), getElem!_pos l j (by omega), List.getElem_take]
theorem TextsAt.drop {w : World} {b off : Nat} {l : List ByteArray} (h : TextsAt w (some ⟨b, off, none⟩) l) (k : Nat) : TextsAt w (some ⟨b, off + k, none⟩) (l.drop k) := fun j hj => by
  rw [List.length_drop] at hj
  obtain ⟨b', off', e, h2, h3⟩ := h (k + j) (by omega)
  injection e with e
  injection e with e1 e2
  subst e1 e2
  refine ⟨b, off + k, rfl, h2, ?_⟩
  rw [Nat.add_assoc, h3, getElem!_pos (l.drop k) j (by rw [List.length_drop]; omega), getElem!_pos l (k + j) (by omega), List.getElem_drop]

/-- a row of one text, that the call builds -/
theorem StrRow.built (w : World) (x : ByteArray) : StrRow w (w.alloc (.cells #[.string x] 9)) (.slice (some ⟨w.heap.size, 0, none⟩) 1 1) [x] := by
  refine ⟨below_alloc _ _, ⟨rfl, .inr ⟨w.heap.size, 1, #[.string x], rfl, Nat.zero_le _, heap_alloc_new w _, Nat.le_refl _, by unfold maxLen; omega, rfl, rfl⟩⟩, fun k hk => ?_⟩
  simp only [Value.ownBlock, Option.some.injEq] at hk
  omega
theorem tab_one (x : ByteArray) : tab [x] = [x] := rfl

set_option maxRecDepth 100000 in
set_option maxHeartbeats 1000000 in
theorem refOf_any : ∀ (n : Nat) (ao : Option Addr) (cap : Nat) (l : List ByteArray) (w : World), l.length = n → l.length ≤ cap → l.length * 16 ≤ 140737488355328 → TextsAt w ao l →
    Calls Try.prog 10 #[.slice ao l.length cap] w fun e w' => ∃ v, e = .returned v ∧ StrRow w w' v (tab l) := by
  intro n
  induction n using Nat.strongRecOn with
  | ind n ih =>
    intro ao cap l w hn hcap hl hT
    by_cases h0 : l.length = 0
    · obtain rfl : l = [] := List.eq_nil_of_length_eq_zero h0
      clear ih hT hl hcap
      go_enter Try.func10, Try.ntmps10
      go_wp2_with fail
      go_ret
      exact ⟨_, rfl, StrRow.nil w⟩
    · by_cases h1 : l.length = 1
      · obtain ⟨x, rfl⟩ := List.length_eq_one_iff.1 h1
        obtain ⟨b, off, rfl, hb, hc⟩ := hT.spot (by simp)
        have hc0 : w.cell? ⟨b, off, none⟩ = some (.string x) := by have := hc 0 (by simp); simpa only [Nat.add_zero, List.getElem!_cons_zero] using this
        have hB := Lib.hid (StrRow.built w x)
        clear ih hT hl hcap hc hb h0 h1
        go_enter Try.func10, Try.ntmps10
        go_wp2_with fail
        go_ret
        exact ⟨_, rfl, hB.out⟩
      · obtain ⟨b, off, rfl, hb, hc⟩ := hT.spot (by omega)
        obtain ⟨L, hL⟩ : ∃ L, l.length = L := ⟨_, rfl⟩
        obtain ⟨m, hm⟩ : ∃ m, L / 2 = m := ⟨_, rfl⟩
        have e1 : (l.take m).length = m := by rw [List.length_take]; omega
        have e2 : (l.drop m).length = L - m := by rw [List.length_drop]; omega
        have r1 := fun (c : Nat) (hc : m ≤ c) (W : World) (hT : TextsAt W (some ⟨b, off, none⟩) (l.take m)) => ih m (by omega) (some ⟨b, off, none⟩) c (l.take m) W e1 (by omega) (by omega) hT
        have r2 := fun (c : Nat) (hc : L - m ≤ c) (W : World) (hT : TextsAt W (some ⟨b, off + m, none⟩) (l.drop m)) => ih (L - m) (by omega) (some ⟨b, off + m, none⟩) c (l.drop m) W e2 (by omega) (by omega) hT
        have r3 := fun (ao bo : Option Addr) (ca cb : Nat) (W : World) (hA : TextsAt W ao (tab (l.take m))) (hB : TextsAt W bo (tab (l.drop m))) => merge_any ao bo ca cb (tab (l.take m)) (tab (l.drop m)) W (by have := tab_length (l.take m); have := tab_length (l.drop m); omega) hA hB (ris_tab _) (ris_tab _)
        have e3 : tab (tab (l.take m) ++ tab (l.drop m)) = tab l := tab_congr fun x => by
          rw [List.mem_append, mem_tab, mem_tab, ← List.mem_append, List.take_append_drop]
        rw [e3] at r3
        rw [e1] at r1
        rw [e2] at r2
        have t1 := hT.take m
        have t2 := hT.drop m
        rw [hL] at hcap ⊢
        have hq : ((L : Nat) : Int).tdiv 2 = (m : Int) := by rw [Int.tdiv_eq_ediv_of_nonneg (by omega)]; omega
        have hq2 : ((L : Nat) : Int) / 2 = (m : Int) := by omega
        have hLL : 2 ≤ L := by omega
        have hm1 : 1 ≤ m ∧ m < L := by omega
        have hsub : L - m = L - m := rfl
        have hL62 : L < 4611686018427387904 := by omega
        generalize tab (l.take m) = Ta at *
        generalize tab (l.drop m) = Tb at *
        generalize tab l = T at *
        have R1 := Lib.hid r1
        have R2 := Lib.hid r2
        have R3 := Lib.hid r3
        have T1 := Lib.hid t1
        have T2 := Lib.hid t2
        have HM := Lib.hid hm
        clear ih r1 r2 r3 e1 e2 e3 t1 t2 hT hc hl hL hm hsub hb hn h0 h1
        go_enter Try.func10, Try.ntmps10
        go_wp2_with (go_at_call 10; ((with_reducible refine (R1.out _ (by omega) _ T1.out).mono ?_); rintro e w1 ⟨v1, rfl, hrow⟩; obtain ⟨a1, c1, rfl, _, ht⟩ := hrow.texts; have B1 := Lib.hid hrow.below; have D1 := Lib.hid (T2.out.below hrow.below (Nat.le_refl _)); have E1 := Lib.hid ht; clear hrow ht))
        go_wp2_with (go_at_call 10; ((with_reducible refine (R2.out _ (by omega) _ D1.out).mono ?_); rintro e w2 ⟨v2, rfl, hrow⟩; obtain ⟨a2, c2, rfl, _, ht⟩ := hrow.texts; have B2 := Lib.hid (le_below B1.out hrow.below); have D2 := Lib.hid (E1.out.below hrow.below (Nat.le_refl _)); have E2 := Lib.hid ht; clear hrow ht))
        go_wp2_with (go_at_call 31; ((with_reducible refine (R3.out _ _ _ _ _ D2.out E2.out).mono ?_); rintro e w3 ⟨v3, rfl, hrow⟩; have B3 := Lib.hid (show StrRow w w3 v3 T from ⟨le_below B2.out hrow.below, hrow.row, fun k hk => by have := hrow.new k hk; have := B2.out.size; omega⟩); clear hrow))
        go_ret
        exact ⟨_, rfl, B3.out⟩

end Go.Proofs.Ytcpkogboaniehaa.Sym
