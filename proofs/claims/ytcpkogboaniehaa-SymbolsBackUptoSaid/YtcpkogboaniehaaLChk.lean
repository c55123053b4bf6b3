/-
  The first error of a list: contracts of hasName, check, IsSorted, checkSet, Valid. Own text.
-/
import Derived.Test.YtcpkogboaniehaaLComp
import Derived.Shelf.SlicesQ.IndexFunc
import Derived.Ground.SlgfProg
import Derived.Shelf.SlSortCmp.QuietGrown
import Derived.IntWalk
import Derived.StillTailTactics
namespace Go.Proofs
open Go.Shelf
shelf_lay_g SlLaysH0.n8 Slgf 8 at Try 91 as Try.lContains
end Go.Proofs
namespace Go.Proofs.Ytcpkogboaniehaa.Lab
open Go.RowKit Go Go.Proofs.Ytcpkogboaniehaa.Base Go.Shelf Go.Sort

theorem LabsAt.flat {w : World} {b off : Nat} {l : List Lab} (h : LabsAt w (some ⟨b, off, none⟩) l) : ∀ j, j < l.length → ∀ i v, (Lab.cells l[j]!)[i]? = some v → w.cell? ⟨b, off + j * 2 + i, none⟩ = some v := fun j hj i v hi => by
  obtain ⟨b', off', e, _, h3, h4⟩ := h j hj
  injection e with e
  injection e with e1 e2
  subst e1 e2
  generalize l[j]! = y at h3 h4 hi
  match i, hi with
  | 0, hi => simp [Lab.cells] at hi; rw [← hi]; exact h3
  | 1, hi => simp [Lab.cells] at hi; rw [← hi]; exact h4
  | i + 2, hi => simp [Lab.cells] at hi

theorem bool_str (a b : ByteArray) : (a.toList == b.toList) = decide (a = b) := by
  by_cases h : a = b
  · rw [str_eq h]; simp [h]
  · rw [str_ne h]; simp [h]

theorem closure_has (n : ByteArray) (B : Nat) (w : World) (hB : B < w.heap.size) (hcell : w.cell? ⟨B, 0, none⟩ = some (.string n)) :
    PredBelow Try.prog 92 #[.pointer (some ⟨B, 0, none⟩)] (fun x : Lab => .agg x.cells.toArray) (fun x => decide (x.n = n)) w := fun W x hb => by
  have hc : W.cell? ⟨B, 0, none⟩ = some (.string n) := (hb.cell (p := ⟨B, 0, none⟩) hB).trans hcell
  have hBW : B < W.heap.size := Nat.lt_of_lt_of_le hB hb.size
  have hne : B ≠ W.heap.size := by omega
  obtain ⟨xn, xv⟩ := x
  show Calls Try.prog 92 #[.agg #[.string xn, .string xv], .pointer (some ⟨B, 0, none⟩)] W _
  simp only
  obtain ⟨R, hR⟩ : ∃ R, decide (xn = n) = R := ⟨_, rfl⟩
  rw [hR]
  have hR2 : (xn.toList == n.toList) = R := by rw [bool_str, hR]
  have HR := Lib.hid hR2
  clear hR hR2
  go_enter Try.func92, Try.ntmps92
  go_wp2
  all_goals (go_ret; exact ⟨by first | rfl | exact ret_bool HR.out, hb.alloc hb.size _⟩)

theorem hasName_any (b off c : Nat) (l : List Lab) (n : ByteArray) (w : World) (hn : l.length < 4611686018427387904) (hb : b < w.heap.size) (hL : LabsAt w (some ⟨b, off, none⟩) l) :
    Calls Try.prog 76 #[.slice (some ⟨b, off, none⟩) l.length c, .string n] w fun e w' => e = .returned (.bool (has l n)) ∧ Below w.heap.size w w' := by
  have eg : ∀ args w, (callFunc 92 args).run Try.prog w = .ok (.enter 92 args) w := enters_of Try.func92 (by kernel_rfl) rfl
  have hB1 : Below w.heap.size w (w.alloc (.cells #[.string n] 9)) := below_alloc _ _
  have hcon := AnyQ.slices_ContainsFunc Try.lContains 2 Try.isAgg69 Try.sizeOf69 Lab.cells (fun _ => rfl) (fun y => decide (y.n = n)) 92 #[.pointer (some ⟨w.heap.size, 0, none⟩)] eg b off l.length c l (w.alloc (.cells #[.string n] 9))
    (closure_has n w.heap.size _ (by simp) (by simp)) (Nat.le_refl _) (by omega) (by simp; omega) ((hL.below hB1 (Nat.le_refl _)).flat)
  change Calls Try.prog 91 _ _ _ at hcon
  rw [List.take_length] at hcon
  rw [show has l n = l.any fun y => decide (y.n = n) from rfl]
  generalize (l.any fun y => decide (y.n = n)) = R at hcon ⊢
  have HC := Lib.hid hcon
  clear hL hcon hn hb hB1
  go_enter Try.func76, Try.ntmps76
  go_wp2_with (go_at_call 91; refine HC.out.mono ?_; rintro e w' ⟨rfl, hb'⟩)
  go_ret
  exact ⟨rfl, ((Below.refl _ w).alloc (Nat.le_refl _) _).trans (hb'.mono (by simp))⟩


theorem le_below {w a b : World} (h : Below w.heap.size w a) (k : Below a.heap.size a b) : Below w.heap.size w b := h.trans (k.mono h.size)

set_option maxRecDepth 100000 in
set_option maxHeartbeats 4000000 in
theorem check_any (ao : Option Addr) (cap : Nat) (l : List Lab) (w : World) (hl : l.length < 4611686018427387904) (hcap : l.length ≤ cap) (hL : LabsAt w ao l) :
    Calls Try.prog 63 #[.slice ao l.length cap] w fun e w' => e = .returned (.int .i64 (chk l : Int)) ∧ Below w.heap.size w w' := by
  have HN := Lib.hid hl
  have HL := Lib.hid hL
  have HCAP := Lib.hid hcap
  have hcc := fun W => checkCount_any l.length (by omega) W
  unfold chk
  by_cases hc0 : cntE l.length = 0
  · rw [if_neg (by omega)]
    rw [hc0] at hcc
    have HC := Lib.hid hcc
    obtain ⟨R, hR⟩ : ∃ R, chkAux [] l = R := ⟨_, rfl⟩
    rw [hR]
    have HR : Hid (chkAt l 0 = R) := by rw [chkAt_zero]; exact hR
    clear hc0 hcc hR hL hcap
    go_enter Try.func63, Try.ntmps63
    go_wp2_with (go_at_call 74; refine (HC.out _).mono ?_; rintro e w2 ⟨rfl, rfl⟩)
    go_loopg [16] l.length (fun r i wr => ∃ k : Nat, Hid (k + r = l.length) ∧ k ≤ l.length ∧ i = .int .i64 (k : Int) ∧ Hid (chkAt l k = R) ∧ Below w.heap.size w wr)
    case atStart => exact ⟨0, Nat.zero_add _, Nat.zero_le _, rfl, HR, Below.refl _ _⟩
    case round =>
      obtain ⟨k, hE, hk, rfl, HK, hB⟩ := hrel
      have hsz := hB.size
      have hk2 := HN.out
      by_cases hlt : k < l.length
      · have hLk := HL.out.below hB (Nat.le_refl _)
        obtain ⟨b, off, rfl, hb, q0, q1⟩ := hLk k hlt
        have HLK := Lib.hid hLk
        obtain ⟨x, hx⟩ : ∃ x, x = l[k]! := ⟨_, rfl⟩
        have hlab := fun W => checkLabel_any x W
        have hs1 := fun he => chkAt_lab hlt he
        have hs2 := fun he hh => chkAt_twice hlt he hh
        have hs3 := fun he hh => chkAt_go hlt he hh
        rw [HK.out, ← hx] at hs1 hs2 hs3
        rw [← hx] at q0 q1
        obtain ⟨xn, xv⟩ := x
        simp only [Lab.val] at q0 q1 hlab hs1 hs2 hs3
        have HLB := Lib.hid hlab
        have HS1 := Lib.hid hs1
        have HS2 := Lib.hid hs2
        have HS3 := Lib.hid hs3
        have HB := Lib.hid hB
        clear hx hlab hs1 hs2 hs3 hB hLk
        go_wp2_with fail
        obtain ⟨wa, hwa⟩ : ∃ wa, wa = wr.alloc (.cells #[.string xn, .string xv] 69) := ⟨_, rfl⟩
        rw [← hwa]
        have hba : Below wr.heap.size wr wa := by rw [hwa]; exact below_alloc _ _
        have c0 : wa.cell? ⟨wr.heap.size, 0, none⟩ = some (.string xn) := by rw [hwa]; exact cell_new rfl rfl
        have c1 : wa.cell? ⟨wr.heap.size, 1, none⟩ = some (.string xv) := by rw [hwa]; exact cell_new rfl rfl
        have hz : wr.heap.size < wa.heap.size := by rw [hwa, World.size_alloc]; omega
        have HBA := Lib.hid hba
        clear hwa hba
        by_cases he : labE ⟨xn, xv⟩ = 0
        · have hlb := HLB.out
          rw [he] at hlb
          have HLB2 := Lib.hid hlb
          have HE0 := Lib.hid he
          clear hlb he
          go_wp2_with (go_at_call 75; refine (HLB2.out _).mono ?_; rintro e w2 ⟨rfl, hb2⟩)
          have d0 : w2.drew.cell? ⟨wr.heap.size, 0, none⟩ = some (.string xn) := (hb2.cell (p := ⟨wr.heap.size, 0, none⟩) hz).trans c0
          have d1 : w2.drew.cell? ⟨wr.heap.size, 1, none⟩ = some (.string xv) := (hb2.cell (p := ⟨wr.heap.size, 1, none⟩) hz).trans c1
          have hbw : Below wr.heap.size wr w2.drew := le_below HBA.out hb2.drew
          have hkc := HCAP.out
          have hkc2 : k ≤ cap := by omega
          have hh := hasName_any b off cap (l.take k) xn w2.drew (by rw [List.length_take]; omega) (by have := hbw.size; omega) ((HLK.out.take k).below hbw (Nat.le_refl _))
          rw [show (l.take k).length = k by rw [List.length_take]; omega] at hh
          have HBW := Lib.hid hbw
          have HH := Lib.hid hh
          clear hb2 hh hbw hkc
          refine wp_region_still_tail 5 (by kernel_rfl) (by kernel_rfl) ?_
          simp only [List.take_succ_cons, List.take_zero, List.drop_succ_cons, List.drop_zero]
          change wpStill _ _ w2.drew _ _ _
          repeat still_step
          refine wpStill_nil ?_
          change wpList _ _ _ _ _ w2.drew
          by_cases hhas : has (l.take k) xn = true
          · have hst := HS2.out HE0.out hhas
            have hh := HH.out
            rw [hhas] at hh
            have HH2 := Lib.hid hh
            clear hh hhas
            subst hst
            go_wp2_with (go_at_call 76; refine HH2.out.mono ?_; rintro e w3 ⟨rfl, hb3⟩)
            go_ret
            exact ⟨rfl, le_below HB.out (le_below HBW.out hb3)⟩
          · have hhas2 : has (l.take k) xn = false := by simpa using hhas
            have hst := HS3.out HE0.out hhas2
            have hh := HH.out
            rw [hhas2] at hh
            have HH2 := Lib.hid hh
            have HST := Lib.hid hst.symm
            clear hh hhas hhas2 hst
            go_wp2_with (go_at_call 76; refine HH2.out.mono ?_; rintro e w3 ⟨rfl, hb3⟩)
            go_roundg (l.length - (k + 1))
            case measure => have := hE.out; omega
            case rel => exact ⟨k + 1, by show _ = _; omega, by omega, by go_num, HST.out, le_below HB.out (le_below HBW.out hb3)⟩
        · have hst := HS1.out he
          have e1 : ((labE ⟨xn, xv⟩ : Int) != 0) = true := by rw [bne_iff_ne]; omega
          rw [← hst] at e1
          have hlb := HLB.out
          rw [← hst] at hlb
          have HLB2 := Lib.hid hlb
          clear hlb he hst
          go_wp2_with (go_at_call 75; refine (HLB2.out _).mono ?_; rintro e w2 ⟨rfl, hb2⟩)
          go_ret
          exact ⟨rfl, le_below HB.out (le_below HBA.out hb2)⟩
      · obtain rfl : k = l.length := by omega
        have hst := chkAt_end l
        rw [HK.out] at hst
        subst hst
        go_wp2_with fail
        go_ret
        exact ⟨rfl, hB⟩
  · rw [if_pos hc0]
    have e1 : ((cntE l.length : Int) != 0) = true := by rw [bne_iff_ne]; omega
    generalize cntE l.length = R at *
    have HC := Lib.hid hcc
    clear hc0 hcc hL hcap
    go_enter Try.func63, Try.ntmps63
    go_wp2_with (go_at_call 74; refine (HC.out _).mono ?_; rintro e w2 ⟨rfl, rfl⟩)
    go_ret
    exact ⟨rfl, Below.refl _ _⟩
end Go.Proofs.Ytcpkogboaniehaa.Lab
