/-
  The texts DExtend, joined. Own text.
-/
import Derived.Test.YtmmlefbokplnnaaGreatDoorJ08
set_option linter.unusedVariables false
set_option linter.unusedSimpArgs false
namespace Go.Proofs.YtmmlefbokplnnaaGreatDoor.Disk
open Go.RowKit Go Go.Proofs.YtmmlefbokplnnaaGreatDoor.Base

def cat (ps : Nat → ByteArray) : Nat → List Nat
  | 0 => []
  | k + 1 => cat ps k ++ nums (ps k)
theorem cat_lt (ps : Nat → ByteArray) (k : Nat) : ∀ x ∈ cat ps k, x < 256 := by
  induction k with
  | zero => intro x hx; cases hx
  | succ k ih =>
    intro x hx
    rcases List.mem_append.1 hx with hx | hx
    · exact ih x hx
    · exact nums_lt _ x hx
theorem cat_len_le (ps : Nat → ByteArray) (j k : Nat) (h : j ≤ k) : (cat ps j).length ≤ (cat ps k).length := by
  induction k with
  | zero => have : j = 0 := by omega
            subst this; exact Nat.le_refl _
  | succ k ih =>
    by_cases hj : j = k + 1
    · subst hj; exact Nat.le_refl _
    · have := ih (by omega)
      simp only [cat, List.length_append]
      omega

/-- a row of texts as it lies -/
def PartsAt (w : World) (ao : Option Addr) (len : Nat) (ps : Nat → ByteArray) : Prop :=
  ∀ j, j < len → ∃ b off, ao = some ⟨b, off, none⟩ ∧ b < w.heap.size ∧ w.cell? ⟨b, off + j, none⟩ = some (.string (ps j))

theorem enc_last_set (l : List PStep) (k n : Nat) : (encSteps (l ++ [.add k])).set (l.length * 3 + 2) (.int .i64 (n : Int)) = encSteps (l ++ [.add n]) := by
  rw [encSteps_append, encSteps_append, List.set_append_right _ _ (by rw [encSteps_length]; omega), encSteps_length, show l.length * 3 + 2 - l.length * 3 = 2 from by omega]
  rfl

theorem step_info : (Tryz.prog.info? 135).map (fun i => (i.zero, i.size, i.bytes)) = some (some (.agg #[.bool false, .string ⟨#[]⟩, .int .i64 0]), 3, 32) := by kernel_rfl

/-- a file whose steps' slice is stored anew -/
theorem FileAt.newSteps {w w' : World} {fb : Nat} {bv sv sv' : Value} {p : PF} {l : List PStep} (h : FileAt w fb bv sv p) (ht : Turn (fun k => sv.ownBlock = some k) w w') (hr : w'.ownsRow 0 135 3 sv' l.length (encSteps l)) (hbl : sv'.ownBlock ≠ some fb) :
    FileAt (w'.setCell ⟨fb, 1, none⟩ sv') fb bv sv' ⟨p.bytes, l⟩ := by
  obtain ⟨a1, a2, a3⟩ := h.apart
  have hc : w'.heap[fb]? = some (.cells #[bv, sv] 94) := (ht.block fb h.lt (fun e => a2 e)).trans h.cells
  have hoth : ∀ k, k ≠ fb → (w'.setCell ⟨fb, 1, none⟩ sv').heap[k]? = w'.heap[k]? := fun k hk => Below.heap_setCell _ _ _ _ hk
  refine ⟨?_, ?_, ?_⟩
  · rw [heap_setCell_same w' fb 1 #[bv, sv] 94 sv' hc]
    rfl
  · refine row_of_block (row_turn h.bytes ht fun k hk e => a3 k hk e) fun k hk => hoth k (fun e => a1 (e ▸ hk))
  · exact row_of_block hr fun k hk => hoth k (fun e => hbl (e ▸ hk))

/-- a new step, behind the others -/
theorem append_step (w : World) (sv : Value) (l : List PStep) (n : Nat) (hn : l.length = n) (hown : w.ownsRow 0 135 3 sv n (encSteps l)) (s : PStep) (b : Nat) (hb : w.heap[b]? = some (.cells (encStep s).toArray 135)) (hl : n < 1099511627776) :
    ∃ v' w', (Builtin.append_ #[92, 92] 92 #[sv, .slice (some ⟨b, 0, none⟩) 1 1]).run Tryz.prog w = .ok v' w' ∧ w'.ownsRow 0 135 3 v' (n + 1) (encSteps (l ++ [s])) ∧ w.grownBy w' sv.ownBlock ∧ (v'.ownBlock = sv.ownBlock ∨ v'.ownBlock = some w.heap.size) := by
  obtain ⟨i0, hi, hz0, hz1, hz2⟩ := info_parts step_info
  have hsrc : Src Tryz.prog 3 92 (.slice (some ⟨b, 0, none⟩) 1 1) 1 (encStep s) w := by
    refine Src.ofSlice w Tryz.underlying92 _ 1 1 _ (by rw [encStep_length]) ?_ ?_
    · intro j u hu
      rw [Go.WideShapes.add_plain, cell_of_row w b _ _ _ _ hb]
      simpa using hu
    · intro u hu
      cases s <;> simp [encStep] at hu <;> rcases hu with rfl | rfl | rfl <;> rfl
  obtain ⟨v', w', h1, h2, h3, h4⟩ := Row.append_src (P := Tryz.prog) w 92 92 92 135 i0 _ 3 32 Tryz.underlying92 hi hz0 hz1 hz2 rfl (by decide) sv n _ hown _ 1 _ hsrc (by unfold maxLen; omega) (by omega)
  refine ⟨v', w', h1, ?_, h3, h4⟩
  rw [encSteps_append]
  have e : encSteps [s] = encStep s := by simp [encSteps]
  rw [e]
  exact h2

set_option maxRecDepth 100000 in
set_option maxHeartbeats 4000000 in
theorem fileExtend_any (p : PF) (fb : Nat) (bv sv : Value) (w : World) (h : FileAt w fb bv sv p) (ao : Option Addr) (len cap : Nat) (ps : Nat → ByteArray) (hP : PartsAt w ao len ps) (hpo : ∀ b off, ao = some ⟨b, off, none⟩ → ¬ fileOwn fb bv sv b)
    (hb : p.bytes.length + (cat ps len).length < 1099511627776) (hl : p.steps.length < 1099511627776) (hll : len < 1099511627776) (hk : ∀ k r, p.steps.reverse = .add k :: r → k < 1099511627776) :
    Calls Tryz.prog 98 #[.pointer (some ⟨fb, 0, none⟩), .slice ao len cap] w fun e w' =>
    e = .returned (.tuple #[]) ∧ ∃ bv' sv', FileAt w' fb bv' sv' (p.add (cat ps len)) ∧ Turn (fileOwn fb bv sv) w w' ∧ (bv'.ownBlock = bv.ownBlock ∨ ∃ k, bv'.ownBlock = some k ∧ w.heap.size ≤ k) ∧ (sv'.ownBlock = sv.ownBlock ∨ ∃ k, sv'.ownBlock = some k ∧ w.heap.size ≤ k) := by
  obtain ⟨bs, l⟩ := p
  simp only at hb hl hk
  obtain ⟨ba0, bc0, rfl, _⟩ := row_len h.bytes
  obtain ⟨sa0, sc0, rfl, _⟩ := row_len h.steps
  simp only at h hpo
  obtain ⟨N, hN⟩ : ∃ N, l.length = N := ⟨_, rfl⟩
  have HN := Lib.hid hN
  rw [hN] at h hpo hl ⊢
  have HF := Lib.hid h
  have HP := Lib.hid hP
  have HO := Lib.hid hpo
  have HB := Lib.hid hb
  have HK := Lib.hid hk
  have c0 := h.cell0
  clear h hP hpo hb hk hN
  go_enter Tryz.func98, Tryz.ntmps98
  go_wp2_with fail
  go_loopg [16] len (fun r i wr => ∃ (j : Nat) (bw : Value) (b : List Nat), Hid (j + r = len) ∧ j ≤ len ∧ i = .int .i64 (j : Int) ∧ Hid (b = bs ++ cat ps j) ∧ FileAt wr fb bw (.slice sa0 N sc0) ⟨b, l⟩ ∧
    Turn (fun k => k = fb ∨ (Value.slice ba0 bs.length bc0).ownBlock = some k) w wr ∧ (bw.ownBlock = (Value.slice ba0 bs.length bc0).ownBlock ∨ ∃ k, bw.ownBlock = some k ∧ w.heap.size ≤ k))
  case atStart => exact ⟨0, _, bs, Nat.zero_add _, Nat.zero_le _, rfl, by show bs = bs ++ []; simp, HF.out, Turn.refl _ _, .inl rfl⟩
  case round =>
    obtain ⟨j, bw, b, hE, hj, rfl, Hb, hF, hT, hO⟩ := hrel
    by_cases hlt : j < len
    · obtain ⟨pb, off, rfl, hpb, hcell⟩ := HP.out j hlt
      have hcell' : wr.cell? ⟨pb, off + j, none⟩ = some (.string (ps j)) := hT.cell hcell (fun hh => HO.out pb off rfl (by rcases hh with hh | hh; exact .inl hh; exact .inr (.inl hh)))
      obtain ⟨q, hq⟩ : ∃ q, q = ps j := ⟨_, rfl⟩
      rw [← hq] at hcell'
      have Hq := Lib.hid hq
      have hbl : b.length + q.size < 1099511627776 := by
        have h1 := HB.out
        have h2 := cat_len_le ps (j + 1) len hlt
        have h3 : (cat ps (j + 1)).length = (cat ps j).length + (ps j).size := by simp [cat, nums_length]
        rw [Hb.out, hq, List.length_append]
        omega
      obtain ⟨ba, bc, rfl, _⟩ := row_len hF.bytes
      simp only at hF hO
      have k0 := hF.cell0
      obtain ⟨v', w', hrun, hrow, hg, hloc⟩ := Row.append_text wr 91 (.slice ba b.length bc) b b.length rfl hF.bytes q (by omega)
      obtain ⟨q0, q1, q2, q3, q4⟩ := keep_bytes hF hrow (by rw [List.length_append, nums_length]) hg hloc
      obtain ⟨ad3, cp3, rfl, _⟩ := row_len hrow
      have HRun := Lib.hid hrun
      have HQ0 := Lib.hid q0
      have HT := Lib.hid hT
      have HG := Lib.hid hg
      clear hrun q0 hrow hg hF hT hcell hq
      go_wp2_with (at_builtin; refine Row.append_by rfl (.tmp 24) (.tmp 25) _ rfl _ _ rfl rfl HRun.out ?_)
      go_roundg (len - (j + 1))
      case measure => have := hE.out; omega
      case rel =>
        have hsz := HT.out.size
        refine ⟨j + 1, _, _, by show _ = _; omega, by omega, by go_num, ?_, HQ0.out, ?_, ?_⟩
        · show _ = _
          rw [Hb.out, Hq.out, cat, List.append_assoc]
        · refine HT.out.trans (S' := fun k => k = fb ∨ (Value.slice ba b.length bc).ownBlock = some k) ((Turn.of_grown HG.out (fun k hk => .inr hk)).set _ _ (fun _ => .inl rfl)) ?_
          intro i hi hh
          rcases hh with hh | hh
          · exact .inl hh
          · rcases hO with h | ⟨k, h1, h2⟩
            · rw [h] at hh; exact .inr hh
            · rw [h1] at hh; injection hh with hh; omega
        · rcases hloc with h3 | h3
          · rw [h3]; exact hO
          · exact .inr ⟨_, h3, hsz⟩
    · obtain rfl : j = len := by omega
      clear hlt hE
      have hbl2 : b.length = bs.length + (cat ps j).length := by rw [Hb.out, List.length_append]
      obtain ⟨n, hn⟩ : ∃ n, (cat ps j).length = n := ⟨_, rfl⟩
      rw [hn] at hbl2
      have Hn := Lib.hid hn
      have hb2 : bs.length + n < 1099511627776 := by rw [← hn]; exact HB.out
      have hsub : wrap64 ((b.length : Int) - (bs.length : Int)) = (n : Int) := by simp only [wrap64]; omega
      have hsub2 : IntKind.i64.wrap ((b.length : Int) - (bs.length : Int)) = (n : Int) := by rw [IntWalk.i64_in _ (by omega)]; omega
      obtain ⟨ba, bc, rfl, _⟩ := row_len hF.bytes
      simp only at hF hO
      have k0 := hF.cell0
      have k1 := hF.cell1
      have f1 := hF.fro 1
      have Hbl2 := Lib.hid hbl2
      clear hn hbl2
      rcases List.eq_nil_or_concat l with hl0 | ⟨l', s, hl0⟩
      · skip
        have Hl0 := Lib.hid hl0
        have hge : ¬ (0 : Int) ≤ (N : Int) - 1 := by have := HN.out; rw [hl0] at this; simp at this; omega
        clear hl0
        obtain ⟨v', w', hrun, hrow, hg, hloc⟩ := append_step (wr.alloc (.cells #[.bool false, .string ⟨#[]⟩, .int .i64 (n : Int)] 135)) (.slice sa0 N sc0) l N HN.out (by have := hF.steps.alloc (.cells #[.bool false, .string ⟨#[]⟩, .int .i64 (n : Int)] 135); simp only at this; rw [HN.out] at this; exact this) (.add n) wr.heap.size (heap_alloc_new _ _) (by omega)
        have hBel : Below wr.heap.size wr (wr.alloc (.cells #[.bool false, .string ⟨#[]⟩, .int .i64 (n : Int)] 135)) := below_alloc _ _
        have hFa := hF.turn (Turn.of_below (S := fun _ => False) hBel) (fun _ _ h => h)
        obtain ⟨sa', sc', rfl, _⟩ := row_len hrow
        have hsb : (Value.slice sa' (N + 1) sc').ownBlock ≠ some fb := fun e => by
          rcases hloc with h1 | h1
          · rw [h1] at e; exact hFa.apart.2.1 e
          · rw [h1] at e; injection e with e; have := hFa.lt; omega
        have hN := hFa.newSteps (sv' := .slice sa' (N + 1) sc') (l := l ++ [.add n]) (Turn.of_grown hg (fun k hk => hk)) (by rw [List.length_append, HN.out]; exact hrow) hsb
        have hfbb : w'.heap[fb]? = (wr.alloc (.cells #[.bool false, .string ⟨#[]⟩, .int .i64 (n : Int)] 135)).heap[fb]? := hg.block fb hFa.lt (fun e => hFa.apart.2.1 e.symm)
        have e1 : w'.cell? ⟨fb, 1, none⟩ = some (.slice sa0 N sc0) := by rw [World.cell?_of_block (w := wr.alloc _) hfbb]; exact hFa.cell1
        have g1 : w'.frozen? ⟨fb, 1, none⟩ = false := by rw [World.frozen?_of_block (w := wr.alloc _) hfbb]; exact hFa.fro 1
        have HRun := Lib.hid hrun
        have HNEW := Lib.hid hN
        have HG := Lib.hid hg
        have HT := Lib.hid hT
        have HBel := Lib.hid hBel
        have HO2 := Lib.hid hO
        clear hrun hN hg hrow hT hBel hfbb hsb hFa hF hO
        go_wp2_with (at_builtin; refine Row.append_by rfl (.tmp 72) (.tmp 75) _ rfl _ _ rfl rfl HRun.out ?_)
        go_end0
        have hsz := HT.out.size
        have hsz2 := HBel.out.size
        refine ⟨rfl, _, Value.slice sa' (N + 1) sc', ?_, ?_, HO2.out, ?_⟩
        · have h1 := HNEW.out
          unfold PF.add
          have hl0 := Hl0.out; subst hl0; simp only [List.reverse_nil]
          rw [Hn.out, ← Hb.out]
          exact h1
        · have t1 : Turn (fileOwn fb (Value.slice ba0 bs.length bc0) (Value.slice sa0 N sc0)) w wr := HT.out.mono (fun i _ hh => by rcases hh with hh | hh; exact .inl hh; exact .inr (.inl hh))
          refine t1.trans (S' := fun k => k = fb ∨ (Value.slice sa0 N sc0).ownBlock = some k) ?_ (fun i _ hh => by rcases hh with hh | hh; exact .inl hh; exact .inr (.inr hh))
          refine Turn.set ?_ _ _ (fun _ => .inl rfl)
          exact (Turn.of_below HBel.out : Turn (fun k => k = fb ∨ (Value.slice sa0 N sc0).ownBlock = some k) wr _).trans (Turn.of_grown HG.out (fun k hk => hk)) (fun i _ hh => .inr hh)
        · rcases hloc with h3 | h3
          · exact .inl h3
          · exact .inr ⟨_, h3, by omega⟩
      · rw [List.concat_eq_append] at hl0
        cases s with
        | cut tk =>
          obtain ⟨M, rfl⟩ : ∃ M, N = M + 1 := ⟨l'.length, by rw [← HN.out, hl0]; simp⟩
          have hM : l'.length = M := by have := HN.out; rw [hl0] at this; simp at this; omega
          obtain ⟨g, cap', hsv, hg0, hcs⟩ := step_at hF.steps (by simp only; rw [hl0]; simp)
          simp only at hsv hcs
          injection hsv with hsv1 hsv2 hsv3
          subst hsv1
          have hMl : M < l.length := by rw [HN.out]; omega
          have hat : l[M]'hMl = PStep.cut tk := by
            subst hl0 hM
            simp
          have d0 := hcs M hMl 0 (by omega)
          have d2 := hcs M hMl 2 (by omega)
          rw [hat] at d0 d2
          simp only [encStep, List.getElem?_cons_zero, List.getElem?_cons_succ, Nat.add_zero] at d0 d2
          clear hcs hsv2 hsv3 hat hMl
          have Hl0 := Lib.hid hl0
          have HM := Lib.hid hM
          clear hl0 hM
          obtain ⟨v', w', hrun, hrow, hg, hloc⟩ := append_step (wr.alloc (.cells #[.bool false, .string ⟨#[]⟩, .int .i64 (n : Int)] 135)) (.slice (some ⟨g, 0, none⟩) (M + 1) sc0) l (M + 1) HN.out (by have := hF.steps.alloc (.cells #[.bool false, .string ⟨#[]⟩, .int .i64 (n : Int)] 135); simp only at this; rw [HN.out] at this; exact this) (.add n) wr.heap.size (heap_alloc_new _ _) (by omega)
          have hBel : Below wr.heap.size wr (wr.alloc (.cells #[.bool false, .string ⟨#[]⟩, .int .i64 (n : Int)] 135)) := below_alloc _ _
          have hFa := hF.turn (Turn.of_below (S := fun _ => False) hBel) (fun _ _ h => h)
          obtain ⟨sa', sc', rfl, _⟩ := row_len hrow
          have hsb : (Value.slice sa' ((M + 1) + 1) sc').ownBlock ≠ some fb := fun e => by
            rcases hloc with h1 | h1
            · rw [h1] at e; exact hFa.apart.2.1 e
            · rw [h1] at e; injection e with e; have := hFa.lt; omega
          have hN := hFa.newSteps (sv' := .slice sa' ((M + 1) + 1) sc') (l := l ++ [.add n]) (Turn.of_grown hg (fun k hk => hk)) (by rw [List.length_append, HN.out]; exact hrow) hsb
          have hfbb : w'.heap[fb]? = (wr.alloc (.cells #[.bool false, .string ⟨#[]⟩, .int .i64 (n : Int)] 135)).heap[fb]? := hg.block fb hFa.lt (fun e => hFa.apart.2.1 e.symm)
          have e1 : w'.cell? ⟨fb, 1, none⟩ = some (.slice (some ⟨g, 0, none⟩) (M + 1) sc0) := by rw [World.cell?_of_block (w := wr.alloc _) hfbb]; exact hFa.cell1
          have g1 : w'.frozen? ⟨fb, 1, none⟩ = false := by rw [World.frozen?_of_block (w := wr.alloc _) hfbb]; exact hFa.fro 1
          have HRun := Lib.hid hrun
          have HNEW := Lib.hid hN
          have HG := Lib.hid hg
          have HT := Lib.hid hT
          have HBel := Lib.hid hBel
          have HO2 := Lib.hid hO
          clear hrun hN hg hrow hT hBel hfbb hsb hFa hF hO
          go_wp2_with (at_builtin; refine Row.append_by rfl (.tmp 72) (.tmp 75) _ rfl _ _ rfl rfl HRun.out ?_)
          go_end0
          have hsz := HT.out.size
          have hsz2 := HBel.out.size
          refine ⟨rfl, _, Value.slice sa' ((M + 1) + 1) sc', ?_, ?_, HO2.out, ?_⟩
          · have h1 := HNEW.out
            unfold PF.add
            rw [Hl0.out]; rw [Hl0.out] at h1; simp only [List.reverse_append, List.reverse_cons, List.reverse_nil, List.nil_append, List.singleton_append]
            rw [Hn.out, ← Hb.out]
            exact h1
          · have t1 : Turn (fileOwn fb (Value.slice ba0 bs.length bc0) (Value.slice (some ⟨g, 0, none⟩) (M + 1) sc0)) w wr := HT.out.mono (fun i _ hh => by rcases hh with hh | hh; exact .inl hh; exact .inr (.inl hh))
            refine t1.trans (S' := fun k => k = fb ∨ (Value.slice (some ⟨g, 0, none⟩) (M + 1) sc0).ownBlock = some k) ?_ (fun i _ hh => by rcases hh with hh | hh; exact .inl hh; exact .inr (.inr hh))
            refine Turn.set ?_ _ _ (fun _ => .inl rfl)
            exact (Turn.of_below HBel.out : Turn (fun k => k = fb ∨ (Value.slice (some ⟨g, 0, none⟩) (M + 1) sc0).ownBlock = some k) wr _).trans (Turn.of_grown HG.out (fun k hk => hk)) (fun i _ hh => .inr hh)
          · rcases hloc with h3 | h3
            · exact .inl h3
            · exact .inr ⟨_, h3, by omega⟩
        | add k =>
          obtain ⟨M, rfl⟩ : ∃ M, N = M + 1 := ⟨l'.length, by rw [← HN.out, hl0]; simp⟩
          have hM : l'.length = M := by have := HN.out; rw [hl0] at this; simp at this; omega
          obtain ⟨g, cap', hsv, hg0, hcs⟩ := step_at hF.steps (by simp only; rw [hl0]; simp)
          simp only at hsv hcs
          injection hsv with hsv1 hsv2 hsv3
          subst hsv1
          have hMl : M < l.length := by rw [HN.out]; omega
          have hat : l[M]'hMl = PStep.add k := by
            subst hl0 hM
            simp
          have d0 := hcs M hMl 0 (by omega)
          have d2 := hcs M hMl 2 (by omega)
          rw [hat] at d0 d2
          simp only [encStep, List.getElem?_cons_zero, List.getElem?_cons_succ, Nat.add_zero] at d0 d2
          clear hcs hsv2 hsv3 hat hMl
          have Hl0 := Lib.hid hl0
          have HM := Lib.hid hM
          clear hl0 hM
          have hkk : k < 1099511627776 := HK.out k l'.reverse (by rw [Hl0.out]; simp)
          obtain ⟨S, hS⟩ : ∃ S, k + n = S := ⟨_, rfl⟩
          have hSi : ((S : Nat) : Int) = (k : Int) + (n : Int) := by omega
          have hst := hF.steps
          simp only at hst
          rw [HN.out] at hst
          have hst := hst.stored (M * 3 + 2) (.int .i64 (S : Int))
          rw [Hl0.out, ← HM.out, enc_last_set, HM.out, hSi] at hst
          have hfz : wr.frozen? ⟨g, M * 3 + 2, none⟩ = false := by have := hF.steps; simp only at this; rw [HN.out] at this; exact this.frozenAt _
          have HST := Lib.hid hst
          have HF2 := Lib.hid hF
          have HT := Lib.hid hT
          have HO2 := Lib.hid hO
          have HS := Lib.hid hS
          clear hF hT hst hO hS hSi
          go_wp2
          refine bodyPost_ret (results_none rfl _ _ _) rfl ?_
          have hap := HF2.out.apart
          have hgne : g ≠ fb := fun e => hap.2.1 (by rw [e]; rfl)
          have hg2 := HST.out.2
          refine ⟨rfl, _, Value.slice (some ⟨g, 0, none⟩) (M + 1) sc0, ?_, ?_, HO2.out, .inl rfl⟩
          · unfold PF.add
            rw [Hl0.out]
            simp only [List.reverse_append, List.reverse_cons, List.reverse_nil, List.nil_append, List.singleton_append]
            rw [Hn.out, ← Hb.out, List.reverse_reverse, HS.out]
            refine ⟨?_, ?_, ?_⟩
            · rw [hg2.block fb HF2.out.lt (fun e => hgne (by injection e with e; exact e.symm))]; exact HF2.out.cells
            · exact row_of_block HF2.out.bytes fun i hi => hg2.block i (row_lt HF2.out.bytes hi) (fun e => hap.2.2 i hi (by rw [e]; rfl))
            · have h1 := HST.out.1
              simp only [List.length_append, List.length_cons, List.length_nil, HM.out]
              exact h1
          · have t1 : Turn (fileOwn fb (Value.slice ba0 bs.length bc0) (Value.slice (some ⟨g, 0, none⟩) (M + 1) sc0)) w wr := HT.out.mono (fun i _ hh => by rcases hh with hh | hh; exact .inl hh; exact .inr (.inl hh))
            exact t1.set _ _ (fun _ => .inr (.inr rfl))

end Go.Proofs.YtmmlefbokplnnaaGreatDoor.Disk
