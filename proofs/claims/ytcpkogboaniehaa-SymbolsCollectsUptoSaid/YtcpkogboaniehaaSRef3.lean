/-
  The document's answer for tables: contract of Of. Own text.
-/
import Derived.Test.YtcpkogboaniehaaSRef2
namespace Go.Proofs.Ytcpkogboaniehaa.Sym
open Go.RowKit Go Go.Proofs.Ytcpkogboaniehaa.Base Go.Proofs.Ytcpkogboaniehaa.Lab Go.Shelf Go.Sort

theorem TextsAt.take {w : World} {b off : Nat} {l : List ByteArray} (h : TextsAt w (some ⟨b, off, none⟩) l) (k : Nat) : TextsAt w (some ⟨b, off, none⟩) (l.take k) := fun j hj => by
  rw [List.length_take] at hj
  obtain ⟨b', off', e, h2, h3⟩ := h j (by omega)
  refine ⟨b', off', e, h2, ?_⟩
  rw [h3, getElem!_pos (l.take k) j (by rw [List.length_take]; omega), getElem!_pos l j (by omega), List.getElem_take]
theorem TextsAt.drop {w : World} {b off : Nat} {l : List ByteArray} (h : TextsAt w (some ⟨b, off, none⟩) l) (k : Nat) : TextsAt w (some ⟨b, off + k, none⟩) (l.drop k) := fun j hj => by
  rw [List.length_drop] at hj
  obtain ⟨b', off', e, h2, h3⟩ := h (k + j) (by omega)
  injection e with e
  injection e with e1 e2
  subst e1 e2
  refine ⟨b, off + k, rfl, h2, ?_⟩
  rw [Nat.add_assoc, h3, getElem!_pos (l.drop k) j (by rw [List.length_drop]; omega), getElem!_pos l (k + j) (by omega), List.getElem_drop]

/-- a row of one text, that the call builds -/
theorem StrRow.built (w : World) (x : ByteArray) : StrRow w (w.alloc (.cells #[.string x] 9)) (.slice (some ⟨w.heap.size, 0, none⟩) 1 1) [x] := by
  refine ⟨below_alloc _ _, ⟨rfl, .inr ⟨w.heap.size, 1, #[.string x], rfl, Nat.zero_le _, heap_alloc_new w _, Nat.le_refl _, by unfold maxLen; omega, rfl, rfl⟩⟩, fun k hk => ?_⟩
  simp only [Value.ownBlock, Option.some.injEq] at hk
  omega
theorem tab_one (x : ByteArray) : tab [x] = [x] := rfl

set_option maxRecDepth 100000 in
set_option maxHeartbeats 1000000 in
theorem refOf_any : ∀ (n : Nat) (ao : Option Addr) (cap : Nat) (l : List ByteArray) (w : World), l.length = n → l.length ≤ cap → l.length * 16 ≤ 140737488355328 → TextsAt w ao l →
    Calls Try.prog 10 #[.slice ao l.length cap] w fun e w' => ∃ v, e = .returned v ∧ StrRow w w' v (tab l) := by
  intro n
  induction n using Nat.strongRecOn with
  | ind n ih =>
    intro ao cap l w hn hcap hl hT
    by_cases h0 : l.length = 0
    · obtain rfl : l = [] := List.eq_nil_of_length_eq_zero h0
      clear ih hT hl hcap
      go_enter Try.func10, Try.ntmps10
      go_wp2_with fail
      go_ret
      exact ⟨_, rfl, StrRow.nil w⟩
    · by_cases h1 : l.length = 1
      · obtain ⟨x, rfl⟩ := List.length_eq_one_iff.1 h1
        obtain ⟨b, off, rfl, hb, hc⟩ := hT.spot (by simp)
        have hc0 : w.cell? ⟨b, off, none⟩ = some (.string x) := by have := hc 0 (by simp); simpa only [Nat.add_zero, List.getElem!_cons_zero] using this
        have hB := Lib.hid (StrRow.built w x)
        clear ih hT hl hcap hc hb h0 h1
        go_enter Try.func10, Try.ntmps10
        go_wp2_with fail
        go_ret
        exact ⟨_, rfl, hB.out⟩
      · obtain ⟨b, off, rfl, hb, hc⟩ := hT.spot (by omega)
        obtain ⟨L, hL⟩ : ∃ L, l.length = L := ⟨_, rfl⟩
        obtain ⟨m, hm⟩ : ∃ m, L / 2 = m := ⟨_, rfl⟩
        have e1 : (l.take m).length = m := by rw [List.length_take]; omega
        have e2 : (l.drop m).length = L - m := by rw [List.length_drop]; omega
        have r1 := fun (c : Nat) (hc : m ≤ c) (W : World) (hT : TextsAt W (some ⟨b, off, none⟩) (l.take m)) => ih m (by omega) (some ⟨b, off, none⟩) c (l.take m) W e1 (by omega) (by omega) hT
        have r2 := fun (c : Nat) (hc : L - m ≤ c) (W : World) (hT : TextsAt W (some ⟨b, off + m, none⟩) (l.drop m)) => ih (L - m) (by omega) (some ⟨b, off + m, none⟩) c (l.drop m) W e2 (by omega) (by omega) hT
        have r3 := fun (ao bo : Option Addr) (ca cb : Nat) (W : World) (hA : TextsAt W ao (tab (l.take m))) (hB : TextsAt W bo (tab (l.drop m))) => merge_any ao bo ca cb (tab (l.take m)) (tab (l.drop m)) W (by have := tab_length (l.take m); have := tab_length (l.drop m); omega) hA hB (ris_tab _) (ris_tab _)
        have e3 : tab (tab (l.take m) ++ tab (l.drop m)) = tab l := tab_congr fun x => by
          rw [List.mem_append, mem_tab, mem_tab, ← List.mem_append, List.take_append_drop]
        rw [e3] at r3
        rw [e1] at r1
        rw [e2] at r2
        have t1 := hT.take m
        have t2 := hT.drop m
        rw [hL] at hcap ⊢
        have hq : ((L : Nat) : Int).tdiv 2 = (m : Int) := by rw [Int.tdiv_eq_ediv_of_nonneg (by omega)]; omega
        have hq2 : ((L : Nat) : Int) / 2 = (m : Int) := by omega
        have hLL : 2 ≤ L := by omega
        have hm1 : 1 ≤ m ∧ m < L := by omega
        have hsub : L - m = L - m := rfl
        have hL62 : L < 4611686018427387904 := by omega
        generalize tab (l.take m) = Ta at *
        generalize tab (l.drop m) = Tb at *
        generalize tab l = T at *
        have R1 := Lib.hid r1
        have R2 := Lib.hid r2
        have R3 := Lib.hid r3
        have T1 := Lib.hid t1
        have T2 := Lib.hid t2
        have HM := Lib.hid hm
        clear ih r1 r2 r3 e1 e2 e3 t1 t2 hT hc hl hL hm hsub hb hn h0 h1
        go_enter Try.func10, Try.ntmps10
        go_wp2_with (go_at_call 10; ((with_reducible refine (R1.out _ (by omega) _ T1.out).mono ?_); rintro e w1 ⟨v1, rfl, hrow⟩; obtain ⟨a1, c1, rfl, _, ht⟩ := hrow.texts; have B1 := Lib.hid hrow.below; have D1 := Lib.hid (T2.out.below hrow.below (Nat.le_refl _)); have E1 := Lib.hid ht; clear hrow ht))
        go_wp2_with (go_at_call 10; ((with_reducible refine (R2.out _ (by omega) _ D1.out).mono ?_); rintro e w2 ⟨v2, rfl, hrow⟩; obtain ⟨a2, c2, rfl, _, ht⟩ := hrow.texts; have B2 := Lib.hid (le_below B1.out hrow.below); have D2 := Lib.hid (E1.out.below hrow.below (Nat.le_refl _)); have E2 := Lib.hid ht; clear hrow ht))
        go_wp2_with (go_at_call 31; ((with_reducible refine (R3.out _ _ _ _ _ D2.out E2.out).mono ?_); rintro e w3 ⟨v3, rfl, hrow⟩; have B3 := Lib.hid (show StrRow w w3 v3 T from ⟨le_below B2.out hrow.below, hrow.row, fun k hk => by have := hrow.new k hk; have := B2.out.size; omega⟩); clear hrow))
        go_ret
        exact ⟨_, rfl, B3.out⟩

end Go.Proofs.Ytcpkogboaniehaa.Sym
