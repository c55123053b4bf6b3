/-
  The law EncSums: its walk. Own text.
-/
import Derived.Test.YtdedkhifnecgkaaDoorEWakes
import Derived.BigFrame
import Derived.OwnWalk
namespace Go.Proofs.YtdedkhifnecgkaaDoor.Enc
open Go.RowKit Go Go.Proofs.YtdedkhifnecgkaaDoor.Base

theorem cat_succ (ps : Nat → ByteArray) (k : Nat) : cat ps (k + 1) = cat ps k ++ nums (ps k) := rfl

/-- an append behind '&&' or '||' whose guard says yes, by what it comes to -/
theorem append_by {P : Program} {ops : Array Oper} {rest : List Oper} {o : Oper} {a : Act} {Q : Exit → Act → World → Prop} {w w' : World} {v' : Value} (hw : Region.wanted o (yielded ops a.tmps) = true) (s x : Operand) (t : TypeId)
    (ho : o.op = .call { callee := .builtin .append, args := #[s, x], argTypes := #[t, t] }) (u v : Value) (hs : a.eval s = u) (hx : a.eval x = v)
    (hrun : (Builtin.append_ #[t, t] o.type #[u, v]).run P w = .ok v' w') (h : wpList P ops Q rest (a.put o.dst v') w') : wpList P ops Q (o :: rest) a w := by
  refine BigFrame.wpList_want hw fun K hK => ?_
  unfold Oper.wp execOp
  simp only [ho, resolve, invoke, builtin, Sem.run_bind, Sem.run_pure, Result.andThen_ok, List.map_toArray, List.map_cons, List.map_nil, hs, hx, hrun]
  exact hK _ _ h

theorem info9 : (Tryd.prog.info? 9).map (fun i => (i.zero, i.size, i.bytes)) = some (some (.string ⟨#[]⟩), 1, 16) := by kernel_rfl

theorem copy_nil (w : World) : (Builtin.append_ #[43, 43] 43 #[.slice none 0 0, .slice none 0 0]).run Tryd.prog w = .ok (.slice none 0 0) w := by kernel_rfl

/-- a row of texts, copied -/
theorem copy_texts (ad : Option Addr) (len cap : Nat) (ps : Nat → ByteArray) (w : World) (hn : ad = none → len = 0 ∧ cap = 0) (hl : len * 16 ≤ 140737488351232) (hP : TextsAt w ad len ps) :
    ∃ ao' cap' w', (Builtin.append_ #[43, 43] 43 #[.slice none 0 0, .slice ad len cap]).run Tryd.prog w = .ok (.slice ao' len cap') w' ∧ TextsAt w' ao' len ps ∧ Below w.heap.size w w' := by
  cases ad with
  | none =>
    obtain ⟨rfl, rfl⟩ := hn rfl
    exact ⟨none, 0, w, copy_nil w, fun j hj => by omega, Below.refl _ _⟩
  | some ad =>
    obtain ⟨i0, hi, hz0, hz1, hz2⟩ := info_parts info9
    obtain ⟨v', w', hrun, hown, hgrow, _, _⟩ := run_append_own_at (P := Tryd.prog) w w.heap.size 43 43 9 i0 (.string ⟨#[]⟩) 1 16 Tryd.underlying43 hi hz0 hz1 hz2 rfl (by decide)
      (.slice none 0 0) 0 [] (World.ownsRow_nil _ _ _ _) ad len cap ((List.range len).map fun j => .string (ps j)) (by simp) (by
        intro j u hu
        by_cases hj : j < len
        · obtain ⟨b, off, h1, _, h2, _⟩ := hP j hj
          injection h1 with h1
          subst h1
          simp only [List.getElem?_map, List.getElem?_range hj, Option.map_some, Option.some.injEq] at hu
          subst hu
          rw [Go.WideShapes.add_plain]
          exact h2
        · rw [List.getElem?_eq_none (by simp; omega)] at hu
          cases hu) (by
        intro u hu
        simp only [List.mem_map, List.mem_range] at hu
        obtain ⟨j, _, rfl⟩ := hu
        rfl) (by unfold maxLen; omega) (by omega) (Nat.le_refl _)
    have hB : Below w.heap.size w w' := (Below.refl _ _).grown hgrow (Nat.le_refl _) (fun k hk => by cases hk)
    rw [Nat.zero_add] at hown
    rcases hown.2 with ⟨hv, h0⟩ | ⟨g, cap', cur, hv, _, _, _⟩
    · subst h0
      subst hv
      exact ⟨none, 0, w', hrun, fun j hj => by omega, hB⟩
    · subst hv
      refine ⟨_, cap', w', hrun, fun j hj => ?_, hB⟩
      have hc := hown.cellAt j (by omega)
      have hc2 : w'.cell? ⟨g, j, none⟩ = some (.string (ps j)) := by rw [hc]; simp [hj]
      refine ⟨g, 0, rfl, World.block_lt_of_cell? w' ⟨g, j, none⟩ hc2, ?_, ?_⟩
      · rw [Nat.zero_add]
        exact hc2
      · obtain ⟨_, _, _, _, _, h⟩ := hP j hj
        exact h

theorem append_texts {ops : Array Oper} {rest : List Oper} {o : Oper} {a : Act} {Q : Exit → Act → World → Prop} {w : World} {ad : Option Addr} {len cap : Nat} {ps : Nat → ByteArray} (hw : Region.wanted o (yielded ops a.tmps) = true) (s x : Operand)
    (ho : o.op = .call { callee := .builtin .append, args := #[s, x], argTypes := #[43, 43] }) (hty : o.type = 43) (hs : a.eval s = .slice none 0 0) (hx : a.eval x = .slice ad len cap)
    (hn : ad = none → len = 0 ∧ cap = 0) (hl : len * 16 ≤ 140737488351232) (hP : TextsAt w ad len ps)
    (h : ∀ ao' cap' w', TextsAt w' ao' len ps → Below w.heap.size w w' → wpList Tryd.prog ops Q rest (a.put o.dst (.slice ao' len cap')) w') : wpList Tryd.prog ops Q (o :: rest) a w := by
  obtain ⟨ao', cap', w', hrun, h1, h2⟩ := copy_texts ad len cap ps w hn hl hP
  refine append_by hw s x _ ho _ _ hs hx ?_ (h ao' cap' w' h1 h2)
  rw [hty]
  exact hrun

theorem TextsAt.below {w w' : World} {ao : Option Addr} {len : Nat} {ps : Nat → ByteArray} (h : TextsAt w ao len ps) (hb : Below w.heap.size w w') : TextsAt w' ao len ps := fun j hj => by
  obtain ⟨b, off, h1, h2, h3, h4⟩ := h j hj
  refine ⟨b, off, h1, Nat.lt_of_lt_of_le h2 hb.size, ?_, h4⟩
  rw [hb.cell (p := ⟨b, off + j, none⟩) h2]
  exact h3

set_option maxHeartbeats 1000000 in
theorem sums_walk (ao : Option Addr) (len cap : Nat) (ps : Nat → ByteArray) (w : World) (hn : ao = none → len = 0 ∧ cap = 0) (hl : len * 16 ≤ 140737488351232) (hP : TextsAt w ao len ps) (hps : ∀ j, j < len → (ps j).size ≤ 140737488351232) (hT : Tab w) :
    Calls Tryd.prog 6 #[.slice ao len cap] w fun e w' => e = .returned (.bool true) ∧ Below w.heap.size w w' := by
  have HP := Lib.hid hP
  have HPS := Lib.hid hps
  have HT := Lib.hid hT
  have H3 := Lib.hid (wakes_any w hT)
  have HN := Lib.hid hn
  clear hP hT hps hn
  go_enter Tryd.func6, Tryd.ntmps6
  go_wp2_with fail
  go_loopg [3, 8] len (fun r c i wr => ∃ (j : Nat) (S : ByteArray), Hid (j + r = len) ∧ j ≤ len ∧ i = .int .i64 (j : Int) ∧ c = .string S ∧ S.size ≤ 140737488416768 ∧ Hid (S.size < 65536 → nums S = cat ps j) ∧ wr = w)
  case atStart => exact ⟨0, ByteArray.empty, Nat.zero_add _, Nat.zero_le _, rfl, rfl, by decide, fun _ => rfl, rfl⟩
  case round =>
    obtain ⟨j, S, hE, hj, rfl, rfl, hS, HS, rfl⟩ := hrel
    by_cases hlt : j < len
    · obtain ⟨b, off, rfl, hb, hcell, _⟩ := HP.out j hlt
      have hpj := HPS.out j hlt
      obtain ⟨p, hp⟩ : ∃ p, p = ps j := ⟨_, rfl⟩
      rw [← hp] at hcell hpj
      have Hp := Lib.hid hp
      clear hp
      by_cases h6 : S.size < 65536
      · have h6i : (S.size : Int) < 65536 := by omega
        go_wp2_with fail
        go_roundg (len - (j + 1))
        case measure => have := hE.out; omega
        case rel =>
          refine ⟨j + 1, S ++ p, by show _ = _; omega, by omega, by go_num, rfl, by rw [ByteArray.size_append]; omega, ?_, rfl⟩
          intro _
          rw [nums_append, HS.out h6, cat_succ, Hp.out]
      · have h6i : ¬ (S.size : Int) < 65536 := by omega
        go_wp2_with fail
        go_roundg (len - (j + 1))
        case measure => have := hE.out; omega
        case rel => exact ⟨j + 1, S, by show _ = _; omega, by omega, by go_num, rfl, hS, fun h => absurd h h6, rfl⟩
    · obtain rfl : j = len := by omega
      clear hE hj
      obtain ⟨C, hC⟩ : ∃ C, C = Poly.crc (nums S) := ⟨_, rfl⟩
      have hr : ∀ W : World, Calls Tryd.prog 26 #[.string S] W fun e w' => e = .returned (.int .u32 (C : Int)) ∧ W = w' := fun W => by
        rw [hC]
        exact refCrc_big S (by omega) W
      have h1 : ∀ W : World, Tab W → Calls Tryd.prog 25 #[.slice (some ⟨W.heap.size, 0, none⟩) 1 1] (W.alloc (.cells #[.string S] 9)) fun e w' => e = .returned (.int .u32 (C : Int)) ∧ ∃ n, w' = (W.alloc (.cells #[.string S] 9)).drewN n := fun W hW => by
        rw [hC]
        exact crc_one _ (hW.alloc _) (cell_new _ _ _) (by omega)
      have HR := Lib.hid hr
      have H1 := Lib.hid h1
      have HC := Lib.hid hC
      clear hr h1 hC
      by_cases h6 : S.size < 65536
      · have h6d : decide ((65536 : Int) ≤ (S.size : Int)) = false := by simp; omega
        have hcat : Poly.crc (cat ps j) = C := by rw [HC.out, HS.out h6]
        have HCat := Lib.hid hcat
        clear hcat
        go_wp2_with (go_at_call 14; refine H3.out.mono ?_; rintro e w1 ⟨rfl, h1⟩)
        have T1 := Lib.hid (HT.out.below h1 (Nat.le_refl _))
        go_wp2_with (first
          | (go_at_call 25; ((with_reducible refine (H1.out _ T1.out).mono ?_); rintro e w2 ⟨rfl, n, rfl⟩))
          | (go_at_call 26; refine (HR.out _).mono ?_; rintro e w2 ⟨rfl, rfl⟩)
          | (at_builtin; refine append_texts (ad := ao) (len := j) (cap := cap) (ps := ps) (by rfl) (.const (.slice none 0 0)) (.tmp 33) rfl rfl rfl rfl HN.out hl ?hPx ?_; (case hPx => exact HP.out.below (below_drewN (below_then h1 (below_alloc _ _)) _)); intro ao' cap' w4 hP4 hB4))
        have h2 : Below wr.heap.size wr ((w1.alloc (Obj.cells #[Value.string S] 9)).drewN n) := below_drewN (below_then h1 (below_alloc _ _)) _
        have h4 := below_then h2 hB4
        clear h2
        have h5 := crc_any (cap := cap') w4 (HT.out.below h4 (Nat.le_refl _)) hP4 (by omega)
        rw [HCat.out] at h5
        have H5 := Lib.hid h5
        clear h5 hP4 hB4
        go_wp2_with (first
          | (go_at_call 25; refine H5.out.mono ?_; rintro e w2 ⟨rfl, n2, rfl⟩)
          | (go_at_call 26; refine (HR.out _).mono ?_; rintro e w2 ⟨rfl, rfl⟩))
        go_ret
        exact ⟨rfl, below_drewN h4 _⟩
      · have h6i : (65536 : Int) ≤ (S.size : Int) := by omega
        go_wp2_with (go_at_call 14; refine H3.out.mono ?_; rintro e w1 ⟨rfl, h1⟩)
        have T1 := Lib.hid (HT.out.below h1 (Nat.le_refl _))
        go_wp2_with (first | (go_at_call 25; refine (H1.out _ T1.out).mono ?_; rintro e w2 ⟨rfl, n, rfl⟩) | (go_at_call 26; refine (HR.out _).mono ?_; rintro e w2 ⟨rfl, rfl⟩))
        go_ret
        exact ⟨rfl, below_drewN (below_then h1 (below_alloc _ _)) _⟩
end Go.Proofs.YtdedkhifnecgkaaDoor.Enc
