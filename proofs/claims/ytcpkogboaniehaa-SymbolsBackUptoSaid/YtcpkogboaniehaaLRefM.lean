/-
  The document's Make: contract. Own text.
-/
import Derived.Test.YtcpkogboaniehaaLLaw
import Derived.Deep.QuietTactic
import Derived.BigQuiet
import Derived.IntWalk
namespace Go.Proofs.Ytcpkogboaniehaa.Lab
open Go.RowKit Go Go.Proofs.Ytcpkogboaniehaa.Base Go.Shelf Go.Sort

theorem cellsL_set (l : List Lab) : ∀ (j : Nat) (y : Lab), cellsL (l.set j y) = ((cellsL l).set (j * 2) (.string y.n)).set (j * 2 + 1) (.string y.v) := by
  induction l with
  | nil => intro j y; rfl
  | cons x l ih =>
    intro j y
    cases j with
    | zero => rfl
    | succ j =>
      rw [List.set_cons_succ, cellsL_cons, cellsL_cons, ih j y, show (j + 1) * 2 = j * 2 + 2 by omega]
      rfl

theorem LabRow.stored {t : TypeId} {w wr : World} {g n cap : Nat} {l : List Lab} (h : LabRow t w wr (.slice (some ⟨g, 0, none⟩) n cap) l) (j : Nat) (y : Lab) :
    LabRow t w ((wr.setCell ⟨g, j * 2, none⟩ (.string y.n)).setCell ⟨g, j * 2 + 1, none⟩ (.string y.v)) (.slice (some ⟨g, 0, none⟩) n cap) (l.set j y) := by
  have hn : n = l.length := by
    rcases h.row.2 with ⟨e, _⟩ | ⟨g', cap', cur, e, _⟩
    · cases e
    · injection e
  subst hn
  obtain ⟨h1, g1⟩ := h.row.stored (j * 2) (.string y.n)
  obtain ⟨h2, g2⟩ := h1.stored (j * 2 + 1) (.string y.v)
  refine ⟨(h.below.grown g1 h.below.size h.new).grown g2 (by have := h.below.size; simpa using this) h.new, ?_, h.new⟩
  rw [cellsL_set, List.length_set]
  exact h2

/-- x stands at place j of a rising list -/
def putAt (S : List Lab) (x : Lab) (j : Nat) : List Lab := S.take j ++ x :: S.drop j
theorem putAt_end (S : List Lab) (x : Lab) : putAt S x S.length = S ++ [x] := by
  unfold putAt; rw [List.take_length, List.drop_length]
theorem putAt_length (S : List Lab) (x : Lab) (j : Nat) (h : j ≤ S.length) : (putAt S x j).length = S.length + 1 := by
  unfold putAt; rw [List.length_append, List.length_cons, List.length_take, List.length_drop]; omega
theorem putAt_at (S : List Lab) (x : Lab) (j : Nat) (h : j ≤ S.length) : (putAt S x j)[j]! = x := by
  rw [getElem!_pos _ j (by rw [putAt_length S x j h]; omega)]
  unfold putAt
  rw [List.getElem_append_right (by rw [List.length_take]; omega)]
  simp only [List.length_take]
  have : j - min j S.length = 0 := by omega
  simp [this]
theorem putAt_before (S : List Lab) (x : Lab) (j : Nat) (h : j + 1 ≤ S.length) : (putAt S x (j + 1))[j]! = S[j]! := by
  rw [getElem!_pos _ j (by rw [putAt_length S x (j + 1) h]; omega), getElem!_pos S j (by omega)]
  unfold putAt
  rw [List.getElem_append_left (by rw [List.length_take]; omega), List.getElem_take]
theorem putAt_swap (S : List Lab) (x : Lab) (j : Nat) (h : j + 1 ≤ S.length) : ((putAt S x (j + 1)).set (j + 1) S[j]!).set j x = putAt S x j := by
  apply List.ext_getElem?
  intro i
  unfold putAt
  rw [getElem!_pos S j (by omega)]
  rw [List.getElem?_set, List.getElem?_set]
  have hl1 : (S.take (j + 1)).length = j + 1 := by rw [List.length_take]; omega
  have hl2 : (S.take j).length = j := by rw [List.length_take]; omega
  by_cases h1 : j = i
  · subst h1
    rw [if_pos rfl, List.length_set, List.length_append, hl1, if_pos (by omega), List.getElem?_append_right (by omega), hl2, Nat.sub_self]
    rfl
  · rw [if_neg h1]
    by_cases h2 : j + 1 = i
    · subst h2
      rw [if_pos rfl, List.length_append, hl1, List.length_cons, if_pos (by omega), List.getElem?_append_right (by omega), hl2, show j + 1 - j = 1 by omega, List.getElem?_cons_succ, List.getElem?_drop, Nat.add_zero, List.getElem?_eq_getElem (by omega)]
    · rw [if_neg h2]
      by_cases h3 : i < j
      · rw [List.getElem?_append_left (by omega), List.getElem?_append_left (by omega), List.getElem?_take, List.getElem?_take, if_pos (by omega), if_pos h3]
      · rw [List.getElem?_append_right (by omega), List.getElem?_append_right (by omega), hl1, hl2]
        obtain ⟨d, rfl⟩ : ∃ d, i = j + 2 + d := ⟨i - (j + 2), by omega⟩
        rw [show j + 2 + d - (j + 1) = d + 1 by omega, show j + 2 + d - j = d + 1 + 1 by omega, List.getElem?_cons_succ, List.getElem?_cons_succ, List.getElem?_drop, List.getElem?_drop, show j + 1 + d = j + (d + 1) by omega]
theorem putAt_perm (S : List Lab) (x : Lab) (j : Nat) : (putAt S x j).Perm (S ++ [x]) := by
  unfold putAt
  refine List.perm_middle.trans ?_
  rw [List.take_append_drop]
  exact (List.perm_append_singleton x S).symm
/-- where the walk downwards stops, names rise -/
theorem putAt_asc {S : List Lab} {x : Lab} {j : Nat} (hS : Asc S) (hj : j ≤ S.length) (hn : ∀ y ∈ S, y.n ≠ x.n) (hup : ∀ i, j ≤ i → i < S.length → cmpS x.n S[i]!.n < 0) (hlo : j = 0 ∨ ¬ cmpS x.n S[j - 1]!.n < 0) : Asc (putAt S x j) := by
  unfold putAt Asc
  refine List.pairwise_append.2 ⟨List.Pairwise.sublist (List.take_sublist _ _) hS, List.pairwise_cons.2 ⟨?_, List.Pairwise.sublist (List.drop_sublist _ _) hS⟩, ?_⟩
  · intro y hy
    obtain ⟨i, hi, rfl⟩ := List.mem_iff_getElem.1 hy
    rw [List.length_drop] at hi
    rw [List.getElem_drop]
    have := hup (j + i) (by omega) (by omega)
    rwa [getElem!_pos S (j + i) (by omega)] at this
  · have hlow : ∀ y ∈ S.take j, cmpS y.n x.n < 0 := by
      intro y hy
      obtain ⟨i, hi, rfl⟩ := List.mem_iff_getElem.1 hy
      rw [List.length_take] at hi
      rw [List.getElem_take]
      rcases hlo with h | h
      · omega
      · have h1 : cmpS S[j - 1]!.n x.n < 0 := by
          have := cmpS_ord.swap x.n S[j - 1]!.n
          have hne : cmpS S[j - 1]!.n x.n ≠ 0 := fun e => hn S[j - 1]! (by rw [getElem!_pos S (j - 1) (by omega)]; exact List.getElem_mem _) (cmpS_ord.eq _ _ e)
          omega
        by_cases e : i = j - 1
        · subst e
          rwa [getElem!_pos S (j - 1) (by omega)] at h1
        · have h2 : cmpS S[i]!.n S[j - 1]!.n < 0 := adj_pair hS (by omega) (by omega)
          rw [getElem!_pos S i (by omega)] at h2
          exact cmpS_ord.lt_le h2 (by omega)
    intro a ha b hb
    have h1 := hlow a ha
    rcases List.mem_cons.1 hb with rfl | hb
    · exact h1
    · obtain ⟨i, hi, rfl⟩ := List.mem_iff_getElem.1 hb
      rw [List.length_drop] at hi
      rw [List.getElem_drop]
      have := hup (j + i) (by omega) (by omega)
      rw [getElem!_pos S (j + i) (by omega)] at this
      exact cmpS_ord.lt_le h1 (by omega)


theorem LabRow.drewN {t : TypeId} {w wr : World} {v : Value} {l : List Lab} (h : LabRow t w wr v l) (n : Nat) : LabRow t w (wr.drewN n) v l := ⟨below_drewN h.below n, ⟨h.row.1, h.row.2⟩, h.new⟩
theorem LabRow.shape {t : TypeId} {w wr : World} {ao : Option Addr} {n cap : Nat} {l : List Lab} (h : LabRow t w wr (.slice ao n cap) l) (h1 : 1 ≤ l.length) : ∃ g, ao = some ⟨g, 0, none⟩ ∧ n = l.length ∧ g < wr.heap.size ∧ w.heap.size ≤ g ∧
    (∀ j, j < l.length → wr.cell? ⟨g, j * 2, none⟩ = some (.string l[j]!.n) ∧ wr.cell? ⟨g, j * 2 + 1, none⟩ = some (.string l[j]!.v)) ∧ (∀ j, wr.frozen? ⟨g, j, none⟩ = false) := by
  have hr := h.row
  rcases h.row.2 with ⟨e, h0⟩ | ⟨g, cap', cur, e, h2, h3, h4, h5, h6, h7⟩
  · omega
  · injection e with e1 e2 e3
    subst e1 e2 e3
    refine ⟨g, rfl, rfl, (Array.getElem?_eq_some_iff.1 h3).1, h.new g rfl, fun j hj => ?_, fun j => hr.frozenAt j⟩
    have hc := cellsL_at l j hj
    rw [← h7, List.getElem?_take_of_lt (by omega), List.getElem?_take_of_lt (by omega), Array.getElem?_toList, Array.getElem?_toList] at hc
    simp only [World.cell?, h3]
    simp only [Option.isSome_none, Bool.false_eq_true, if_false]
    exact hc

set_option maxRecDepth 100000 in
set_option maxHeartbeats 8000000 in
theorem refMake_any (ao : Option Addr) (cap : Nat) (l : List Lab) (w : World) (hl : l.length < 4611686018427387904) (hsz : ∀ j, j < l.length → l[j]!.n.size < 4611686018427387904 ∧ l[j]!.v.size < 4611686018427387904) (hL : LabsAt w ao l) :
    Calls Try.prog 58 #[.slice ao l.length cap] w fun e w' => ∃ v, e = .returned (.tuple #[v, .int .i64 (chk l : Int)]) ∧ LabRow 70 w w' v (makeL l) := by
  have HL := Lib.hid hL
  have HSZ := Lib.hid hsz
  have HN := Lib.hid hl
  unfold makeL
  by_cases h0 : l.length = 0
  · have hc : chk l = 43 := by unfold chk; rw [(by unfold cntE; rw [if_pos h0] : cntE l.length = 43)]; rfl
    rw [hc, if_neg (by decide)]
    have e0 : ((l.length : Int) == 0) = true := by rw [beq_iff_eq]; omega
    clear hL hsz hl h0 hc
    go_enter Try.func58, Try.ntmps58
    go_wp2_with fail
    go_ret2
    exact ⟨_, rfl, LabRow.nil _ _⟩
  have e0 : ((l.length : Int) == 0) = false := by rw [beq_eq_false_iff_ne]; omega
  by_cases h8 : 8 < l.length
  · have hc : chk l = 44 := by unfold chk; rw [(by unfold cntE; rw [if_neg h0, if_pos h8] : cntE l.length = 44)]; rfl
    rw [hc, if_neg (by decide)]
    clear hL hsz hl h0 hc
    go_enter Try.func58, Try.ntmps58
    go_wp2_with fail
    go_ret2
    exact ⟨_, rfl, LabRow.nil _ _⟩
  have hck : chk l = chkAt l 0 := by
    rw [chkAt_zero]; unfold chk
    rw [(by unfold cntE; rw [if_neg h0, if_neg h8] : cntE l.length = 0), if_neg (by omega)]
  obtain ⟨R, hR⟩ : ∃ R, R = chk l := ⟨_, rfl⟩
  rw [← hR]
  have HR : Hid (chkAt l 0 = R) := by rw [hR]; exact hck.symm
  have hfin : ∀ S : List Lab, R = 0 → S.Perm l → Asc S → (if R = 0 then sortL l else []) = S := fun S h hp ha => by
    rw [if_pos h]; exact sort_unique hp.symm (ha.imp asc_le)
  have hstop : ¬ R = 0 → (if R = 0 then sortL l else []) = [] := fun h => if_neg h
  have hzero : R = 0 → (∀ x ∈ l, labE x = 0) ∧ Apart l := fun h => by
    have := (chk_zero l).1 (by rw [← hR]; exact h)
    exact ⟨this.2.2.1, this.2.2.2⟩
  obtain ⟨OUT, hOUT⟩ : ∃ OUT, OUT = if R = 0 then sortL l else [] := ⟨_, rfl⟩
  rw [← hOUT] at hfin hstop ⊢
  have HFIN := Lib.hid hfin
  have HSTOP := Lib.hid hstop
  clear hL hsz hl h0 hck hfin hstop hzero hOUT hR
  go_enter Try.func58, Try.ntmps58
  go_wp2_with fail
  go_loopg [4, 5] l.length (fun r q i wr => ∃ (k : Nat) (ao : Option Addr) (n cap : Nat) (S : List Lab), Hid (k + r = l.length) ∧ k ≤ l.length ∧ i = .int .i64 (k : Int) ∧ q = .slice ao n cap ∧ Hid (n = k) ∧ Hid (chkAt l k = R) ∧ Hid (S.Perm (l.take k)) ∧ Hid (Asc S) ∧ Hid (LabRow 70 w wr q S))
  case atStart => exact ⟨0, none, 0, 0, [], Nat.zero_add _, Nat.zero_le _, rfl, rfl, rfl, HR, List.Perm.refl _, List.Pairwise.nil, LabRow.nil _ w⟩
  case round =>
    obtain ⟨k, ao2, n, cap2, S, hE, hk, rfl, rfl, HNK, HK, HP, HAS, HS⟩ := hrel
    obtain ⟨wo, hwo⟩ : ∃ wo : World, wo = wr := ⟨_, rfl⟩
    subst hwo
    have hk2 : l.length < 4611686018427387904 := HN.out
    by_cases hlt : k < l.length
    · have hLk := HL.out.below HS.out.below (Nat.le_refl _)
      have HLK := Lib.hid hLk
      obtain ⟨b, off, rfl, hb, q0, q1⟩ := hLk k hlt
      obtain ⟨sz1, sz2⟩ := HSZ.out k hlt
      have hs1 := fun he => chkAt_lab hlt he
      have hs2 := fun he hh => chkAt_twice hlt he hh
      have hs3 := fun he hh => chkAt_go hlt he hh
      have htn := take_nth l k hlt
      rw [HK.out] at hs1 hs2 hs3
      obtain ⟨x, hx⟩ : ∃ x, x = l[k]! := ⟨_, rfl⟩
      rw [← hx] at q0 q1 hs1 hs2 hs3 sz1 sz2 htn
      obtain ⟨xn, xv⟩ := x
      simp only at q0 q1 hs2 hs3 sz1 sz2
      have hf1 := fun W => refFitName_any xn sz1 W
      have hf2 := fun W => refFitValue_any xv sz2 W
      have hlab : labE ⟨xn, xv⟩ = if fitN xn = false then 40 else if fitV xv = false then 41 else 0 := rfl
      rw [hlab] at hs1 hs2 hs3
      have HX := Lib.hid hx
      have HTN := Lib.hid htn
      clear hx hLk hlab htn sz1 sz2
      cases hn1 : fitN xn
      · rw [hn1] at hf1 hs1
        obtain rfl : R = 40 := by rw [hs1 (by simp)]; simp
        obtain rfl : OUT = [] := HSTOP.out (by decide)
        have F1 := Lib.hid hf1
        have F2 := Lib.hid hf2
        clear hf1 hf2 hs1 hs2 hs3 hn1
        go_wp2_with (first | (go_at_call 44; refine (F1.out _).mono ?_; rintro e w2 ⟨rfl, rfl⟩) | (go_at_call 45; refine (F2.out _).mono ?_; rintro e w2 ⟨rfl, rfl⟩))
        go_ret2
        exact ⟨_, rfl, HS.out.below, World.ownsRow_nil _ _ _ _, fun k hk => by cases hk⟩
      · rw [hn1] at hf1 hs1 hs2 hs3
        cases hn2 : fitV xv
        · rw [hn2] at hf2 hs1
          obtain rfl : R = 41 := by rw [hs1 (by simp)]; simp
          obtain rfl : OUT = [] := HSTOP.out (by decide)
          have F1 := Lib.hid hf1
          have F2 := Lib.hid hf2
          clear hf1 hf2 hs1 hs2 hs3 hn1 hn2
          go_wp2_with (first | (go_at_call 44; refine (F1.out _).mono ?_; rintro e w2 ⟨rfl, rfl⟩) | (go_at_call 45; refine (F2.out _).mono ?_; rintro e w2 ⟨rfl, rfl⟩))
          go_ret2
          exact ⟨_, rfl, HS.out.below, World.ownsRow_nil _ _ _ _, fun k hk => by cases hk⟩
        · rw [hn2] at hf2 hs2 hs3
          have hs2' := hs2 (by simp)
          have hs3' := hs3 (by simp)
          have F1 := Lib.hid hf1
          have F2 := Lib.hid hf2
          have HS2 := Lib.hid hs2'
          have HS3 := Lib.hid hs3'
          clear hf1 hf2 hs1 hs2 hs3 hs2' hs3' hn1 hn2
          go_wp2_with (first | (go_at_call 44; refine (F1.out _).mono ?_; rintro e w2 ⟨rfl, rfl⟩) | (go_at_call 45; refine (F2.out _).mono ?_; rintro e w2 ⟨rfl, rfl⟩))
          go_loopg [8] k (fun r q wi => ∃ m nd : Nat, Hid (m + r = k) ∧ m ≤ k ∧ q = .int .i64 (m : Int) ∧ Hid (∀ i, i < m → l[i]!.n ≠ xn) ∧ wi = wo.drewN nd)
          case atStart => exact ⟨0, 0, Nat.zero_add _, Nat.zero_le _, rfl, fun i hi => by omega, rfl⟩
          case round =>
            obtain ⟨m, nd, hEm, hm, rfl, HNM, rfl⟩ := hrel
            by_cases hmk : m < k
            · obtain ⟨b', off', e, _, p0, p1⟩ := HLK.out m (by omega)
              injection e with e
              injection e with e1 e2
              subst e1 e2
              have htw : l[m]!.n = xn → has (l.take k) xn = true := fun h => (has_iff _ _).2 ⟨l[m]!, by
                rw [List.mem_take_iff_getElem]
                exact ⟨m, by omega, by rw [getElem!_pos l m (by omega)]⟩, h⟩
              have hnx : ¬ l[m]!.n = xn → ∀ i, i < m + 1 → l[i]!.n ≠ xn := fun h i hi => by
                by_cases e : i = m
                · rw [e]; exact h
                · exact HNM.out i (by omega)
              generalize l[m]! = y at p0 p1 htw hnx
              obtain ⟨yn, yv⟩ := y
              simp only at p0 p1 htw hnx
              have HTW := Lib.hid htw
              have HNX := Lib.hid hnx
              clear htw hnx
              by_cases e1 : yn = xn
              · obtain rfl : R = 42 := HS2.out (HTW.out e1)
                obtain rfl : OUT = [] := HSTOP.out (by decide)
                have s1 := str_eq e1
                clear e1
                go_wp2_with fail
                go_quiet (fail)
                go_wp2_with fail
                go_ret2
                exact ⟨_, rfl, ⟨below_drewN (below_drewN HS.out.below _) _, World.ownsRow_nil _ _ _ _, fun k hk => by cases hk⟩⟩
              · have s1 := str_ne e1
                have hn := HNX.out e1
                have HN2 := Lib.hid hn
                clear e1 hn
                go_wp2_with fail
                go_quiet (fail)
                go_wp2_with fail
                go_roundg (k - (m + 1))
                case measure => have := hEm.out; omega
                case rel => exact ⟨m + 1, _, by show _ = _; omega, by omega, by go_num, HN2.out, by first | rfl | (simp only [World.drewN_drewN]; rfl)⟩
            · obtain rfl : m = k := by omega
              have hhas : has (l.take m) xn = false := by
                cases hh : has (l.take m) xn
                · rfl
                · obtain ⟨y, hy, he⟩ := (has_iff _ _).1 hh
                  rw [List.mem_take_iff_getElem] at hy
                  obtain ⟨i, hi, rfl⟩ := hy
                  exact absurd (by rw [← he, getElem!_pos l i (by omega)]) (HNM.out i (by omega))
              have hnx := HS3.out hhas
              have HNX := Lib.hid hnx
              clear hhas hnx
              have hSl : S.length = m := by rw [HP.out.length_eq, List.length_take]; omega
              have hnn : n = m := HNK.out
              have hwa : Below wo.heap.size wo ((wo.drewN nd).alloc (.cells #[.string xn, .string xv] 70)) := le_below (below_drewN (Below.refl _ _) nd) (below_alloc _ _)
              have hsrc : Src Try.prog 2 39 (.slice (some ⟨wo.heap.size, 0, none⟩) 1 1) 1 (cellsL [⟨xn, xv⟩]) ((wo.drewN nd).alloc (.cells #[.string xn, .string xv] 70)) := by
                refine Src.ofSlice _ Try.underlying39 _ 1 1 _ rfl ?_ (cellsL_one _)
                intro j u hu
                rw [Go.WideShapes.add_plain, Nat.zero_add]
                exact cell_new rfl (by simpa [cellsL, Lab.cells] using hu)
              obtain ⟨ao', cap', w1, hrun, hR⟩ := LabRow.append Try.underlying39 ref_info HS.out hwa _ [⟨xn, xv⟩] hsrc (by simp only [List.length_cons, List.length_nil]; omega)
              simp only [List.length_cons, List.length_nil] at hrun hR
              rw [hSl, ← hnn] at hrun hR
              have HRun := Lib.hid hrun
              have HR1 := Lib.hid hR
              have HNN := Lib.hid hnn
              have HSL := Lib.hid hSl
              have hm8 : n < 8 := by omega
              clear hwa hsrc hrun hR hSl hnn
              go_wp2_with (at_builtin; refine Row.append_by rfl (.tmp 55) (.tmp 60) _ rfl _ _ rfl rfl HRun.out ?_)
              have hget : ∃ g, ao' = some ⟨g, 0, none⟩ := by
                obtain ⟨g, h, _⟩ := HR1.out.shape (by simp)
                exact ⟨g, h⟩
              obtain ⟨g, rfl⟩ := hget
              have hnm : n = m := by rw [HNN.out]
              have HNM2 := Lib.hid hnm
              clear hnm q0 q1
              go_loopg [9] n (fun r q wi => ∃ j : Nat, Hid (j = r) ∧ j ≤ n ∧ q = .int .i64 (j : Int) ∧ Hid (∀ i, j ≤ i → i < S.length → cmpS xn S[i]!.n < 0) ∧ Hid (LabRow 70 w wi (.slice (some ⟨g, 0, none⟩) (n + 1) cap') (putAt S ⟨xn, xv⟩ j)))
              case atStart =>
                refine ⟨n, rfl, Nat.le_refl _, rfl, ?_, ?_⟩
                · intro i h1 h2; have := HSL.out; have := HNM2.out; omega
                · show LabRow _ _ _ _ _
                  rw [show n = S.length by have := HSL.out; have := HNM2.out; omega, putAt_end]
                  have := HR1.out
                  rwa [show n = S.length by have := HSL.out; have := HNM2.out; omega] at this
              case round =>
                obtain ⟨j, HJ, hjn, rfl, HUP, HROW⟩ := hrel
                have hnsl : S.length = n := by have := HSL.out; have := HNM2.out; omega
                have fin : (j = 0 ∨ ¬ cmpS xn S[j - 1]!.n < 0) → Hid (Asc (putAt S ⟨xn, xv⟩ j)) ∧ Hid ((putAt S ⟨xn, xv⟩ j).Perm (l.take (m + 1))) := fun h => by
                  have hne : ∀ y ∈ S, y.n ≠ xn := fun y hy e => by
                    have hy2 := HP.out.mem_iff.1 hy
                    rw [List.mem_take_iff_getElem] at hy2
                    obtain ⟨i, hi, rfl⟩ := hy2
                    exact HNM.out i (by omega) (by rw [getElem!_pos l i (by omega)]; exact e)
                  refine ⟨putAt_asc HAS.out (by omega) hne HUP.out h, ?_⟩
                  show List.Perm _ _
                  rw [HTN.out]
                  exact (putAt_perm S _ j).trans (HP.out.append_right _)
                have FIN := Lib.hid fin
                have HNSL := Lib.hid hnsl
                clear fin hnsl
                rcases Nat.eq_zero_or_pos j with rfl | hpos
                · obtain ⟨ha, hp⟩ := FIN.out (.inl rfl)
                  go_wp2_with fail
                  go_quiet (fail)
                  go_wp2_with fail
                  go_roundg (l.length - (m + 1))
                  case measure => have := hE.out; omega
                  case rel => exact ⟨m + 1, _, n + 1, cap', _, by show _ = _; omega, by omega, by go_num, rfl, by show _ = _; have := HNM2.out; omega, HNX.out.symm, hp.out, ha.out, HROW.out.drewN _⟩
                · obtain ⟨u, rfl⟩ : ∃ u, j = u + 1 := ⟨j - 1, by omega⟩
                  clear hpos
                  have hj2 : u + 1 ≤ S.length := by rw [HNSL.out]; exact hjn
                  obtain ⟨g', e, hlen, hgl, hgw, hcells, hfz⟩ := HROW.out.shape (by rw [putAt_length _ _ _ hj2]; omega)
                  injection e with e
                  injection e with e
                  subst e
                  obtain ⟨x0, x1⟩ := hcells (u + 1) (by rw [putAt_length _ _ _ hj2]; omega)
                  obtain ⟨y0, y1⟩ := hcells u (by rw [putAt_length _ _ _ hj2]; omega)
                  rw [putAt_at _ _ _ hj2] at x0 x1
                  rw [putAt_before _ _ _ hj2] at y0 y1
                  have hsw := putAt_swap S ⟨xn, xv⟩ u hj2
                  have hup2 : cmpS xn S[u]!.n < 0 → ∀ i, u ≤ i → i < S.length → cmpS xn S[i]!.n < 0 := fun h i h1 h2 => by
                    by_cases e : i = u
                    · rw [e]; exact h
                    · exact HUP.out i (by omega) h2
                  have hfin2 := fun h => FIN.out (.inr h)
                  rw [show u + 1 - 1 = u by omega] at hfin2
                  generalize hy : S[u]! = y at y0 y1 hsw hup2 hfin2
                  obtain ⟨yn, yv⟩ := y
                  simp only at x0 x1 y0 y1 hup2 hfin2
                  obtain ⟨iN, hiN⟩ : ∃ q, q = u + 1 := ⟨_, rfl⟩
                  obtain ⟨jN, hjN⟩ : ∃ q, q = u := ⟨_, rfl⟩
                  rw [← hiN] at x0 x1
                  rw [← hjN] at y0 y1
                  have z0 := hfz (iN * 2)
                  have z1 := hfz (iN * 2 + 1)
                  have z2 := hfz (jN * 2)
                  have z3 := hfz (jN * 2 + 1)
                  have ea : ((u : Int) + 1).toNat = iN := by omega
                  have pa : (0 : Int) ≤ (u : Int) + 1 := by omega
                  have ba : (u : Int) + 1 < ((n : Int) + 1) := by omega
                  have ra : IntKind.i64.wrap ((u : Int) + 1) = (u : Int) + 1 := IntWalk.i64_in _ (by omega)
                  have ec : ((u : Int)).toNat = jN := by omega
                  have pc : (0 : Int) ≤ (u : Int) := by omega
                  have bc : (u : Int) < ((n : Int) + 1) := by omega
                  have rc : IntKind.i64.wrap ((u : Int)) = (u : Int) := IntWalk.i64_in _ (by omega)
                  have hd0 : decide ((0 : Int) < (u : Int) + 1) = true := decide_eq_true (by omega)
                  have hqz : ((u + 1 : Nat) : Int) = (u : Int) + 1 := by omega
                  rw [hqz]
                  have HSW := Lib.hid hsw
                  have HUP2 := Lib.hid hup2
                  have HFIN2 := Lib.hid hfin2
                  have HIN := Lib.hid hiN
                  have HJN := Lib.hid hjN
                  clear hy hsw hup2 hfin2 hiN hjN hcells hfz hlen hqz hj2
                  by_cases hlt2 : cmpS xn yn < 0
                  · have hless : Op.bytesLess xn.toList yn.toList = true := by rw [less_cmp]; exact decide_eq_true hlt2
                    have hup3 := HUP2.out hlt2
                    have HUP3 := Lib.hid hup3
                    clear hlt2 hup3
                    go_wp2_with fail
                    go_quiet (fail)
                    clear ea ec ra rc
                    rw [HIN.out] at x0 x1 z0 z1
                    rw [HJN.out] at y0 y1 z2 z3
                    obtain ⟨w5, hw5⟩ : ∃ w5, w5 = wr.drewN nq := ⟨_, rfl⟩
                    rw [← hw5]
                    have X0 : w5.cell? ⟨g, (u + 1) * 2, none⟩ = some (.string xn) := by rw [hw5]; exact x0
                    have X1 : w5.cell? ⟨g, (u + 1) * 2 + 1, none⟩ = some (.string xv) := by rw [hw5]; exact x1
                    have Y0 : w5.cell? ⟨g, u * 2, none⟩ = some (.string yn) := by rw [hw5]; exact y0
                    have Y1 : w5.cell? ⟨g, u * 2 + 1, none⟩ = some (.string yv) := by rw [hw5]; exact y1
                    have Z0 : w5.frozen? ⟨g, (u + 1) * 2, none⟩ = false := by rw [hw5]; exact z0
                    have Z1 : w5.frozen? ⟨g, (u + 1) * 2 + 1, none⟩ = false := by rw [hw5]; exact z1
                    have Z2 : w5.frozen? ⟨g, u * 2, none⟩ = false := by rw [hw5]; exact z2
                    have Z3 : w5.frozen? ⟨g, u * 2 + 1, none⟩ = false := by rw [hw5]; exact z3
                    have hgl5 : g < w5.heap.size := by rw [hw5]; exact hgl
                    have hne5 : g ≠ w5.heap.size := by omega
                    have hrow5 : LabRow 70 w w5 (.slice (some ⟨g, 0, none⟩) (n + 1) cap') (putAt S ⟨xn, xv⟩ (u + 1)) := by rw [hw5]; exact HROW.out.drewN _
                    have HROW5 := Lib.hid hrow5
                    clear x0 x1 y0 y1 z0 z1 z2 z3 hrow5 hw5 hgl
                    go_wp2_with fail
                    go_roundg u
                    case measure => have := HJ.out; omega
                    case rel =>
                      refine ⟨u, rfl, by omega, by first | rfl | go_num, HUP3.out, ?_⟩
                      show LabRow _ _ _ _ _
                      have h1 := (HROW5.out.stored (u + 1) ⟨yn, yv⟩).stored u ⟨xn, xv⟩
                      rw [HSW.out] at h1
                      exact h1.kept (below_alloc _ _)
                  · have hless : Op.bytesLess xn.toList yn.toList = false := by rw [less_cmp]; exact decide_eq_false hlt2
                    obtain ⟨ha, hp⟩ := HFIN2.out hlt2
                    clear hlt2
                    go_wp2_with fail
                    go_quiet (fail)
                    clear ea ec ra rc
                    go_wp2_with fail
                    go_roundg (l.length - (m + 1))
                    case measure => have := hE.out; omega
                    case rel => exact ⟨m + 1, _, n + 1, cap', _, by show _ = _; omega, by omega, by go_num, rfl, by show _ = _; have := HNM2.out; omega, HNX.out.symm, hp.out, ha.out, HROW.out.drewN _⟩
    · obtain rfl : k = l.length := by omega
      have hp := HP.out
      rw [List.take_length] at hp
      have hr := chkAt_end l
      rw [HK.out] at hr
      subst hr
      obtain rfl : OUT = S := HFIN.out S rfl hp HAS.out
      clear hp
      go_wp2_with fail
      go_ret2
      exact ⟨_, rfl, HS.out⟩
end Go.Proofs.Ytcpkogboaniehaa.Lab
