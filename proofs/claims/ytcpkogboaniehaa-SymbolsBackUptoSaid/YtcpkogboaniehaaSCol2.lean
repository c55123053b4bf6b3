/-
Lists of lists of labels; contract of Collect. Own text.
  The document's answer for lists of lists of labels: contract of Collect. Own text.
-/
import Derived.Test.YtcpkogboaniehaaSRef3
namespace Go.Proofs.Ytcpkogboaniehaa.Sym
open Go.RowKit Go Go.Proofs.Ytcpkogboaniehaa.Base Go.Proofs.Ytcpkogboaniehaa.Lab Go.Shelf Go.Sort

/-- all names and values -/
def flatL (l : List Lab) : List ByteArray := l.flatMap fun x => [x.n, x.v]
def flat (sets : List (List Lab)) : List ByteArray := sets.flatMap flatL
theorem flatL_length (l : List Lab) : (flatL l).length = 2 * l.length := by
  unfold flatL
  induction l with
  | nil => rfl
  | cons x r ih => rw [List.flatMap_cons, List.length_append, ih]; simp only [List.length_cons, List.length_nil]; omega
theorem flatL_step (l : List Lab) (j : Nat) (h : j < l.length) : flatL (l.take (j + 1)) = flatL (l.take j) ++ [l[j]!.n, l[j]!.v] := by
  rw [take_nth l j h]
  unfold flatL
  rw [List.flatMap_append]
  rfl
theorem flat_step (sets : List (List Lab)) (k : Nat) (h : k < sets.length) : flat (sets.take (k + 1)) = flat (sets.take k) ++ flatL sets[k]! := by
  rw [List.take_succ_eq_append_getElem h, getElem!_pos sets k h]
  unfold flat
  rw [List.flatMap_append]
  simp
theorem flat_take (sets : List (List Lab)) (k : Nat) : (flat (sets.take k)).length ≤ (flat sets).length := by
  unfold flat
  conv => rhs; rw [← List.take_append_drop k sets, List.flatMap_append, List.length_append]
  omega
theorem flat_room (sets : List (List Lab)) (k j : Nat) (hk : k < sets.length) (hj : j < sets[k]!.length) : (flat (sets.take k) ++ flatL (sets[k]!.take j)).length + 2 ≤ (flat sets).length := by
  have h1 := flat_take sets (k + 1)
  rw [flat_step sets k hk, List.length_append, flatL_length] at h1
  rw [List.length_append, flatL_length, List.length_take]
  omega

/-- the cells of a list of lists of labels -/
def SetsAt (w : World) (ao : Option Addr) (sets : List (List Lab)) : Prop :=
  ∀ k, k < sets.length → ∃ b off, ao = some ⟨b, off, none⟩ ∧ b < w.heap.size ∧ ∃ lo cl, w.cell? ⟨b, off + k, none⟩ = some (.slice lo sets[k]!.length cl) ∧ sets[k]!.length ≤ cl ∧ LabsAt w lo sets[k]!
theorem SetsAt.below {w w' : World} {ao : Option Addr} {sets : List (List Lab)} {B : Nat} (h : SetsAt w ao sets) (hb : Below B w w') (hB : w.heap.size ≤ B) : SetsAt w' ao sets := fun k hk => by
  obtain ⟨b, off, h1, h2, lo, cl, h3, h4, h5⟩ := h k hk
  have hs := hb.size
  exact ⟨b, off, h1, by omega, lo, cl, (hb.cell (p := ⟨b, off + k, none⟩) (by show b < B; omega)).trans h3, h4, h5.below hb hB⟩

/-- two texts, in the row that the call builds -/
theorem src_two (W : World) (x y : ByteArray) : Src Try.prog 1 22 (.slice (some ⟨W.heap.size, 0, none⟩) 2 2) 2 (strs [x, y]) (W.alloc (.cells #[.string x, .string y] 9)) := by
  refine Src.ofSlice _ Try.underlying22 _ 2 2 _ rfl ?_ (strs_one _)
  intro j u hu
  rw [Go.WideShapes.add_plain, Nat.zero_add]
  exact cell_new rfl (by simpa [strs] using hu)

set_option maxRecDepth 100000 in
set_option maxHeartbeats 4000000 in
theorem collect_any (ao : Option Addr) (cap : Nat) (sets : List (List Lab)) (w : World) (hn : sets.length < 4611686018427387904) (hl : (flat sets).length * 16 ≤ 140737488355328) (hS : SetsAt w ao sets) :
    Calls Try.prog 17 #[.slice ao sets.length cap] w fun e w' => ∃ p, e = .returned p ∧ NewTab w w' p (tab (flat sets)) := by
  have HS := Lib.hid hS
  have HL := Lib.hid hl
  have h2 := fun (W : World) (v : Value) (h : StrRow w W v (flat sets)) => tableOf_any W w.heap.size v (flat sets) (by
    have hr := h.row
    refine ⟨hr.1, ?_⟩
    rcases hr.2 with h0 | ⟨g, c, cur, k1, k2, k3⟩
    · exact .inl h0
    · exact .inr ⟨g, c, cur, k1, h.new g (by rw [k1]; rfl), k3⟩) h.below.size hl w h.below rfl
  have H2 := Lib.hid h2
  clear hS hl h2
  go_enter Try.func17, Try.ntmps17
  go_wp2_with fail
  go_loopg [3, 10] sets.length (fun r q i wr => ∃ (k n cap : Nat) (so : Option Addr) (S : List ByteArray), Hid (k + r = sets.length) ∧ k ≤ sets.length ∧ i = .int .i64 (k : Int) ∧ q = .slice so n cap ∧ Hid (S.length = n) ∧ Hid (S = flat (sets.take k)) ∧ Hid (StrRow w wr (.slice so n cap) S))
  case atStart => exact ⟨0, 0, 0, none, [], Nat.zero_add _, Nat.zero_le _, rfl, rfl, rfl, by show _ = _; simp [flat], StrRow.nil w⟩
  case round =>
    obtain ⟨k, n, cap2, so, S, hE, hk, rfl, rfl, HN, HSE, HRow⟩ := hrel
    by_cases hlt : k < sets.length
    · obtain ⟨b, off, rfl, hbw, lo, cl, q0, hcl, hLk⟩ := HS.out k hlt
      replace q0 := (HRow.out.below.cell (p := ⟨b, off + k, none⟩) hbw).trans q0
      have hroom := fun j hj => flat_room sets k j hlt hj
      have hstep := flat_step sets k hlt
      have hst := fun j hj => flatL_step sets[k]! j hj
      generalize sets[k]! = M at *
      have HROOM := Lib.hid hroom
      have HST := Lib.hid hst
      have HSTEP := Lib.hid hstep
      have HLK := Lib.hid hLk
      have hM : M.length < 4611686018427387904 := by
        have := HL.out
        rcases Nat.eq_zero_or_pos M.length with h | h
        · omega
        · have := HROOM.out (M.length - 1) (by omega)
          rw [List.length_append, flatL_length, List.length_take] at this
          omega
      have hE2 := hE
      clear hroom hst hstep hLk hbw hE
      go_wp2_with fail
      obtain ⟨wo, hwo⟩ : ∃ wo : World, wo = wr := ⟨_, rfl⟩
      subst hwo
      go_loopg [3, 16] M.length (fun r q i wr => ∃ (j n cap : Nat) (so : Option Addr) (S2 : List ByteArray), Hid (j + r = M.length) ∧ j ≤ M.length ∧ i = .int .i64 (j : Int) ∧ q = .slice so n cap ∧ Hid (S2.length = n) ∧ Hid (S2 = flat (sets.take k) ++ flatL (M.take j)) ∧ Hid (StrRow w wr (.slice so n cap) S2))
      case atStart => exact ⟨0, n, cap2, so, S, Nat.zero_add _, Nat.zero_le _, rfl, rfl, HN.out, by show _ = _; rw [HSE.out]; simp [flatL], HRow.out⟩
      case round =>
        obtain ⟨j, n2, cap3, so2, S2, hEj, hj, rfl, rfl, HN2, HSE2, HRow2⟩ := hrel
        by_cases hlt2 : j < M.length
        · obtain ⟨b2, off2, rfl, _, p0, p1⟩ := (HLK.out.below HRow2.out.below (Nat.le_refl _)) j hlt2
          have hr2 := HROOM.out j hlt2
          have hs2 := HST.out j hlt2
          rw [← HSE2.out, HN2.out] at hr2
          generalize M[j]! = x at *
          obtain ⟨xn, xv⟩ := x
          simp only at p0 p1 hs2
          obtain ⟨ao', cap', w', hrun, hrow⟩ := HRow2.out.append (le_below (below_alloc wr (.cells #[.string xn, .string xv] 69)) (below_alloc _ _)) _ [xn, xv] (src_two _ xn xv) (by have := HL.out; rw [HN2.out]; simp only [List.length_cons, List.length_nil]; omega)
          rw [HN2.out, World.size_alloc] at hrun
          rw [HN2.out] at hrow
          have HRun := Lib.hid hrun
          have HRow3 := Lib.hid hrow
          have HS2 := Lib.hid hs2
          clear hrun hrow hs2 hr2
          go_wp2_with (at_builtin; refine Row.append_by rfl (.tmp 20) (.tmp 25) _ rfl _ _ rfl rfl HRun.out ?_)
          go_roundg (M.length - (j + 1))
          case measure => have := hEj.out; omega
          case rel => exact ⟨j + 1, n2 + 2, cap', ao', S2 ++ [xn, xv], by show _ = _; omega, by omega, by go_num, rfl, by show _ = _; rw [List.length_append, HN2.out]; rfl, by show _ = _; rw [HS2.out, ← List.append_assoc, ← HSE2.out], HRow3.out⟩
        · obtain rfl : j = M.length := by omega
          have hse := HSE2.out
          rw [List.take_length, ← HSTEP.out] at hse
          have HSE3 := Lib.hid hse
          clear hse
          go_wp2_with fail
          go_roundg (sets.length - (k + 1))
          case measure => have := hE2.out; omega
          case rel => exact ⟨k + 1, n2, cap3, so2, S2, by show _ = _; omega, by omega, by go_num, rfl, HN2.out, HSE3.out, HRow2.out⟩
    · obtain rfl : k = sets.length := by omega
      have hse := HSE.out
      rw [List.take_length] at hse
      subst hse
      go_wp2_with (go_at_call 29; ((with_reducible refine (H2.out _ _ HRow.out).mono ?_); rintro e w2 ⟨p, rfl, hN⟩; have N2 := Lib.hid hN; clear hN))
      go_ret
      exact ⟨_, rfl, N2.out⟩

end Go.Proofs.Ytcpkogboaniehaa.Sym
namespace Go.Proofs.Ytcpkogboaniehaa.Sym
open Go.RowKit Go Go.Proofs.Ytcpkogboaniehaa.Base Go.Proofs.Ytcpkogboaniehaa.Lab Go.Shelf Go.Sort

set_option maxRecDepth 100000 in
set_option maxHeartbeats 4000000 in
theorem refCollect_any (ao : Option Addr) (cap : Nat) (sets : List (List Lab)) (w : World) (hn : sets.length < 4611686018427387904) (hl : (flat sets).length * 16 ≤ 140737488355328) (hS : SetsAt w ao sets) :
    Calls Try.prog 18 #[.slice ao sets.length cap] w fun e w' => ∃ v, e = .returned v ∧ StrRow w w' v (tab (flat sets)) := by
  have HS := Lib.hid hS
  have HL := Lib.hid hl
  have h2 := fun (W : World) (x : Option Addr) (cx : Nat) (hc : (flat sets).length ≤ cx) (h : TextsAt W x (flat sets)) => refOf_any (flat sets).length x cx (flat sets) W rfl hc hl h
  have H2 := Lib.hid h2
  clear hS hl h2
  go_enter Try.func18, Try.ntmps18
  go_wp2_with fail
  go_loopg [3, 4] sets.length (fun r q i wr => ∃ (k n cap : Nat) (so : Option Addr) (S : List ByteArray), Hid (k + r = sets.length) ∧ k ≤ sets.length ∧ i = .int .i64 (k : Int) ∧ q = .slice so n cap ∧ Hid (S.length = n) ∧ Hid (S = flat (sets.take k)) ∧ Hid (StrRow w wr (.slice so n cap) S))
  case atStart => exact ⟨0, 0, 0, none, [], Nat.zero_add _, Nat.zero_le _, rfl, rfl, rfl, by show _ = _; simp [flat], StrRow.nil w⟩
  case round =>
    obtain ⟨k, n, cap2, so, S, hE, hk, rfl, rfl, HN, HSE, HRow⟩ := hrel
    by_cases hlt : k < sets.length
    · obtain ⟨b, off, rfl, hbw, lo, cl, q0, hcl, hLk⟩ := HS.out k hlt
      have hroom := fun j hj => flat_room sets k j hlt hj
      have hstep := flat_step sets k hlt
      have hst := fun j hj => flatL_step sets[k]! j hj
      generalize sets[k]! = M at *
      have HROOM := Lib.hid hroom
      have HST := Lib.hid hst
      have HSTEP := Lib.hid hstep
      have HLK := Lib.hid hLk
      have HQ0 := Lib.hid fun (W : World) (hb : Below w.heap.size w W) => (hb.cell (p := ⟨b, off + k, none⟩) hbw).trans q0
      have hM : M.length < 4611686018427387904 := by
        have := HL.out
        rcases Nat.eq_zero_or_pos M.length with h | h
        · omega
        · have := HROOM.out (M.length - 1) (by omega)
          rw [List.length_append, flatL_length, List.length_take] at this
          omega
      have hE2 := hE
      clear hroom hst hstep hLk hE q0
      go_wp2_with fail
      obtain ⟨wo, hwo⟩ : ∃ wo : World, wo = wr := ⟨_, rfl⟩
      subst hwo
      go_loopg [3, 5] M.length (fun r q i wr => ∃ (j n cap : Nat) (so : Option Addr) (S2 : List ByteArray), Hid (j + r = M.length) ∧ j ≤ M.length ∧ i = .int .i64 (j : Int) ∧ q = .slice so n cap ∧ Hid (S2.length = n) ∧ Hid (S2 = flat (sets.take k) ++ flatL (M.take j)) ∧ Hid (StrRow w wr (.slice so n cap) S2))
      case atStart => exact ⟨0, n, cap2, so, S, Nat.zero_add _, Nat.zero_le _, rfl, rfl, HN.out, by show _ = _; rw [HSE.out]; simp [flatL], HRow.out⟩
      case round =>
        obtain ⟨j, n2, cap3, so2, S2, hEj, hj, rfl, rfl, HN2, HSE2, HRow2⟩ := hrel
        have qw := HQ0.out _ HRow2.out.below
        by_cases hlt2 : j < M.length
        · obtain ⟨b2, off2, rfl, hb2, p0, p1⟩ := HLK.out j hlt2
          replace p0 := (HRow2.out.below.cell (p := ⟨b2, off2 + j * 2, none⟩) hb2).trans p0
          have hr2 := HROOM.out j hlt2
          have hs2 := HST.out j hlt2
          rw [← HSE2.out, HN2.out] at hr2
          generalize M[j]! = x at *
          obtain ⟨xn, xv⟩ := x
          simp only at p0 p1 hs2
          obtain ⟨ao', cap', w', hrun, hrow⟩ := HRow2.out.one HN2.out xn (by have := HL.out; omega) wr (Below.refl _ _) rfl
          have HR1 := Lib.hid hrow
          have qw2 := HQ0.out _ hrow.below
          have p2 := (hrow.below.cell (p := ⟨b2, off2 + j * 2 + 1, none⟩) hb2).trans p1
          obtain ⟨ao2, cap4, w2, hrun2, hrow2⟩ := HR1.out.one (by rw [List.length_append, HN2.out]; rfl) xv (by have := HL.out; omega) w' (Below.refl _ _) rfl
          have HRun := Lib.hid hrun
          have HRun2 := Lib.hid hrun2
          have HRow3 := Lib.hid hrow2
          have HS2 := Lib.hid hs2
          clear hrun hrow hrun2 hrow2 hs2 hr2 p1
          go_wp2_with (first
            | (at_builtin; refine Row.append_by rfl (.tmp 21) (.tmp 30) _ rfl _ _ rfl rfl HRun.out ?_)
            | (at_builtin; refine Row.append_by rfl (.tmp 32) (.tmp 41) _ rfl _ _ rfl rfl HRun2.out ?_))
          go_roundg (M.length - (j + 1))
          case measure => have := hEj.out; omega
          case rel => exact ⟨j + 1, n2 + 1 + 1, cap4, ao2, S2 ++ [xn] ++ [xv], by show _ = _; omega, by omega, by go_num, rfl, by show _ = _; rw [List.length_append, List.length_append, HN2.out]; rfl, by show _ = _; rw [HS2.out, ← List.append_assoc, ← HSE2.out, List.append_assoc]; rfl, HRow3.out⟩
        · obtain rfl : j = M.length := by omega
          have hse := HSE2.out
          rw [List.take_length, ← HSTEP.out] at hse
          have HSE3 := Lib.hid hse
          clear hse
          go_wp2_with fail
          go_roundg (sets.length - (k + 1))
          case measure => have := hE2.out; omega
          case rel => exact ⟨k + 1, n2, cap3, so2, S2, by show _ = _; omega, by omega, rfl, by go_num, HN2.out, HSE3.out, HRow2.out⟩
    · obtain rfl : k = sets.length := by omega
      have hse := HSE.out
      rw [List.take_length] at hse
      subst hse
      obtain ⟨a3, c3, he, hc3, ht⟩ := HRow.out.texts
      injection he with he1 he2 he3
      subst he1 he2 he3
      have HT := Lib.hid ht
      have HC := Lib.hid hc3
      clear ht hc3
      go_wp2_with (go_at_call 10; ((with_reducible refine (H2.out _ _ _ HC.out HT.out).mono ?_); rintro e w2 ⟨v, rfl, hrow⟩; have N2 := Lib.hid (show StrRow w w2 v _ from ⟨le_below HRow.out.below hrow.below, hrow.row, fun k hk => by have := hrow.new k hk; have := HRow.out.below.size; omega⟩); clear hrow))
      go_ret
      exact ⟨_, rfl, N2.out⟩

end Go.Proofs.Ytcpkogboaniehaa.Sym
