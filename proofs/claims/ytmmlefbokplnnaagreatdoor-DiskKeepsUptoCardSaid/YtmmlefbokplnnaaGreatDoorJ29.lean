/-
  The texts RCut, RAppend, RKeep, joined. Own text.
-/
import Derived.Test.YtmmlefbokplnnaaGreatDoorJ27
import Derived.Test.YtmmlefbokplnnaaGreatDoorJ26
import Derived.Test.YtmmlefbokplnnaaGreatDoorJ28
set_option linter.unusedVariables false
set_option linter.unusedSimpArgs false
namespace Go.Proofs.YtmmlefbokplnnaaGreatDoor.Disk
open Go.RowKit Go Go.Proofs.YtmmlefbokplnnaaGreatDoor.Base Go.Proofs.YtmmlefbokplnnaaGreatDoor.Map

theorem strN_take (t : List Nat) (n : Nat) : (strN t).extract 0 n = strN (t.take n) := by
  have := strN_extract t 0 n
  rw [Nat.zero_add] at this
  rw [this, List.drop_zero]

section
variable {w : World} {R : Nat} {q : RefG} {m : M}

set_option maxRecDepth 100000 in
set_option maxHeartbeats 2000000 in
theorem Cut_ref (h : RefAt w R q m) (hm : Lim m) (hn : NumsIn m) (p : ByteArray) (hp : p.size < 4611686018427387904) (n : Int) (hni : inI n) :
    Calls Tryz.prog 32 #[.pointer (some ⟨R, 0, none⟩), .string p, .int .i64 n] w fun r w' => r = .returned (.int .i64 ((m.cut p n).1 : Int)) ∧ ∃ q', RefDone w R q w' q' (m.cut p n).2 := by
  have l1 := file_ref h hm p hp
  have l2 := tick_ref h hm.await
  have hfl := hm.files
  have hsame := RefDone.same h (Below.refl _ _)
  have HS := Lib.hid hsame
  have L2 := Lib.hid l2
  have c3 : w.cell? ⟨R, 3, none⟩ = some q.fv := h.cell 3
  have htx := hm.texts
  unfold M.cut
  by_cases hz : (m.file p).2 = 0
  · rw [if_neg (by rw [hz]; decide)]
    have hlt := M.file_lt hn hz
    rw [hz] at l1
    generalize (m.file p).1 = j at *
    obtain ⟨g, cap, hv, hcap, hg, k0, k1, k2⟩ := h.fileCells hlt
    have hnow := htx _ (List.getElem_mem hlt)
    rw [← M.fileAt_eq hlt] at hnow
    have hsz : (strN (m.fileAt j).now).size = (m.fileAt j).now.length := strN_size _
    have HH := Lib.hid h
    have HV := Lib.hid hv
    rw [hv] at c3
    clear h hm hn hsame l2 hz k1 k2 htx hv
    by_cases hr : n < 0 ∨ ((m.fileAt j).now.length : Int) < n
    · rw [if_pos hr]
      generalize strN (m.fileAt j).now = tx at k0 hsz
      rw [← hsz] at hr
      generalize m.files.length = FN at *
      clear hnow
      by_cases h0 : n < 0
      all_goals
        go_enter Tryz.func32, Tryz.ntmps32
        go_wp2_with (go_at_call 72; refine l1.mono ?_; rintro r w2 ⟨rfl, rfl⟩)
        go_ret
        exact ⟨rfl, q, HS.out⟩
    · rw [if_neg hr]
      obtain ⟨k, rfl⟩ : ∃ k : Nat, n = (k : Int) := ⟨n.toNat, by omega⟩
      have hkl : k ≤ (m.fileAt j).now.length := by omega
      have hkt : ((k : Int)).toNat = k := Int.toNat_natCast k
      rw [hkt]
      clear hkt hr
      obtain ⟨tx, ht⟩ : ∃ tx, strN (m.fileAt j).now = tx := ⟨_, rfl⟩
      have htk : tx.extract 0 k = strN ((m.fileAt j).now.take k) := by rw [← ht]; exact strN_take _ _
      rw [ht] at k0 hsz
      rw [← hsz] at hkl
      have hszb : tx.size < 1099511627776 := by omega
      clear hsz
      have HTK := Lib.hid htk
      have HTX := Lib.hid ht
      clear ht htk
      by_cases h1 : m.await = 1
      · have e1 : tickV m = 1 := by unfold tickV; rw [if_pos h1]
        rw [e1] at L2
        rw [if_pos h1]
        generalize m.files.length = FN at *
        clear h1 e1 hnow
        go_enter Tryz.func32, Tryz.ntmps32
        go_wp2_with (first
          | (go_at_call 72; refine l1.mono ?_; rintro r w2 ⟨rfl, rfl⟩)
          | (go_at_call 73; ((with_reducible refine L2.out.mono ?_); rintro r w2 ⟨rfl, hr, ht⟩)))
        go_ret
        exact ⟨rfl, q, ⟨hr, ht.mono fun _ _ hk => .inl hk, fun _ hk => .inl hk⟩⟩
      · have e1 : tickV m = 0 := by unfold tickV; rw [if_neg h1]
        rw [e1] at L2
        rw [if_neg h1]
        clear h1 e1
        have HNOW := Lib.hid hnow
        have HLT := Lib.hid hlt
        have HFL := Lib.hid hfl
        obtain ⟨FN, hFN⟩ : ∃ FN, m.files.length = FN := ⟨_, rfl⟩
        have HFN := Lib.hid hFN
        rw [hFN] at c3 hcap hlt hfl
        clear hFN hnow
        go_enter Tryz.func32, Tryz.ntmps32
        go_wp2_with (first
          | (go_at_call 72; refine l1.mono ?_; rintro r w2 ⟨rfl, rfl⟩)
          | (go_at_call 73; ((with_reducible refine L2.out.mono ?_); rintro r w2 ⟨rfl, hr, ht⟩)))
        have hlt2 : j < m.ticked.files.length := by rw [M.ticked_files]; exact HLT.out
        have hr2 : RefAt w2.drew R q m.ticked := hr.below ((Below.refl _ _).drewN 1)
        have hv2 : q.fv = .slice (some ⟨g, 0, none⟩) m.ticked.files.length cap := by rw [M.ticked_files]; exact HV.out
        have ht2 : Turn (q.own R) w w2.drew := (ht.drew 1).mono fun _ _ hk => .inl hk
        obtain ⟨g', cap', hv', hcc', hg', k0', k1', k2'⟩ := hr2.fileCells hlt2
        clear k1' k2' hcc'
        have hgg : g' = g := by rw [hv2] at hv'; simp at hv'; exact hv'.1.symm
        subst hgg
        have k0'' := k0'
        rw [M.ticked_fileAt, HTX.out] at k0''
        have c3' : w2.drew.cell? ⟨R, 3, none⟩ = some (.slice (some ⟨g', 0, none⟩) FN cap) := by
          have := hr2.cell 3
          rw [show (refCells q m.ticked)[3]? = some q.fv from rfl, HV.out, HFN.out] at this
          exact this
        have fz : ∀ i, w2.drew.frozen? ⟨g', i, none⟩ = false := fun i => by
          have hrw := hr2.files
          rw [hv2] at hrw
          exact World.ownsRow.frozenAt hrw i
        have hlc : (m.ticked.fileAt j).steps.length < 1099511627776 := by rw [M.ticked_fileAt]; exact HNOW.out.2
        have HR2 := Lib.hid hr2
        have HT2 := Lib.hid ht2
        have HV2 := Lib.hid hv2
        clear hr ht hr2 ht2 hv2 hv' hg' k0'
        refine wp_region_still_tail 15 (by kernel_rfl) (by kernel_rfl) ?_
        simp only [List.take_succ_cons, List.take_zero, List.drop_succ_cons, List.drop_zero]
        change wpStill _ _ w2.drew _ _ _
        repeat still_step
        refine wpStill_nil ?_
        change wpList _ _ _ _ _ w2.drew
        generalize w2.drew = w3 at *
        go_wp2_with fail
        obtain ⟨w4, hw4⟩ : ∃ w4, w3.setCell ⟨g', j * 3, none⟩ (.string (tx.extract 0 k)) = w4 := ⟨_, rfl⟩
        rw [hw4]
        obtain ⟨ca, cc, a6, c6, w6, d1, d2, d3, d4, hrun, d5, ⟨u6, d6⟩, d7, hd⟩ := change_fin (w4 := w4) HR2.out hlt2 HV2.out ((m.fileAt j).now.take k) ⟨[], true, k⟩ (x0 := .string ⟨#[]⟩) (x1 := .bool true) (x2 := .int .i64 (k : Int)) rfl hlc (by rw [← HTK.out]; exact hw4)
        rw [HV.out, HFN.out] at d1 d3 d5
        have b1 : w4.drew.cell? ⟨R, 3, none⟩ = _ := d1
        have b2 : w4.drew.cell? ⟨g', j * 3 + 2, none⟩ = _ := d2
        obtain ⟨LN, hLN⟩ : ∃ LN, (m.ticked.fileAt j).steps.length = LN := ⟨_, rfl⟩
        rw [hLN] at b2 d4 hrun hd
        have HRun := Lib.hid hrun
        have hdd : RefDone w R q _ _ _ := ⟨hd.at', HT2.out.trans hd.turn (fun _ _ hh => hh), fun k hk => by
          rcases hd.own k hk with h5 | h5
          · exact .inl h5
          · have := HT2.out.size; exact .inr (by omega)⟩
        rw [M.ticked_fileAt] at hdd
        have HDone := Lib.hid hdd
        clear hrun hd hdd hw4 hLN d1 d2 hlc
        go_region_law (refine Row.step_by rfl (.tmp 67) (.tmp 70) _ rfl _ _ rfl rfl HRun.out ?_)
        all_goals
          go_wp2
          go_ret
          exact ⟨rfl, _, HDone.out⟩
  · rw [if_pos hz]
    have hz' : ¬ (((m.file p).2 : Nat) : Int) = 0 := by omega
    generalize (m.file p).2 = c at *
    generalize (m.file p).1 = j at *
    clear h hm hn hsame l2 hz
    go_enter Tryz.func32, Tryz.ntmps32
    go_wp2_with (go_at_call 72; refine l1.mono ?_; rintro r w2 ⟨rfl, rfl⟩)
    go_ret
    exact ⟨rfl, q, HS.out⟩

end
end Go.Proofs.YtmmlefbokplnnaaGreatDoor.Disk

namespace Go.Proofs.YtmmlefbokplnnaaGreatDoor.Disk
open Go.RowKit Go Go.Proofs.YtmmlefbokplnnaaGreatDoor.Base Go.Proofs.YtmmlefbokplnnaaGreatDoor.Map

theorem strN_add (a : List Nat) (b : ByteArray) : strN a ++ b = strN (a ++ nums b) := by
  apply ByteArray.ext
  rw [ByteArray.data_append]
  apply Array.ext'
  simp [strN, nums, Function.comp_def]

theorem strN_cat (a b : List Nat) : strN a ++ strN b = strN (a ++ b) := by
  apply ByteArray.ext
  rw [ByteArray.data_append]
  apply Array.ext'
  simp [strN]

theorem cat_le (ps : Nat → ByteArray) (a b : Nat) (h : a ≤ b) : (cat ps a).length ≤ (cat ps b).length := by
  induction b with
  | zero => rw [Nat.le_zero.1 h]; exact Nat.le_refl _
  | succ b ih =>
    by_cases e : a = b + 1
    · rw [e]; exact Nat.le_refl _
    · have := ih (by omega)
      rw [cat, List.length_append]
      omega

section
variable {w : World} {R : Nat} {q : RefG} {m : M}

set_option maxRecDepth 100000 in
set_option maxHeartbeats 4000000 in
theorem Append_ref (h : RefAt w R q m) (hm : Lim m) (hn : NumsIn m) (p : ByteArray) (hp : p.size < 4611686018427387904) (ao : Option Addr) (len cap : Nat) (ps : Nat → ByteArray) (hP : PartsAt w ao len ps) (hll : len < 1099511627776) (hT : (cat ps len).length < 549755813888) :
    Calls Tryz.prog 30 #[.pointer (some ⟨R, 0, none⟩), .string p, .slice ao len cap] w fun r w' => r = .returned (.int .i64 ((m.append p (cat ps len)).1 : Int)) ∧ ∃ q', RefDone w R q w' q' (m.append p (cat ps len)).2 := by
  have l1 := file_ref h hm p hp
  have l2 := fun nd => tick_ref (h.below ((Below.refl _ w).drewN nd)) hm.await
  have l3 := Used_ref h hm hn
  have hfl := hm.files
  have hsame := fun nd => RefDone.same h ((Below.refl w.heap.size w).drewN nd)
  have HS := Lib.hid hsame
  have L2 := Lib.hid l2
  have L3 := Lib.hid l3
  have c4 : w.cell? ⟨R, 4, none⟩ = some (.int .i64 (m.cap : Int)) := h.cell 4
  have htx := hm.texts
  have hus : m.used < 4611686018427387904 := by have := hm.sum; exact this
  have hcap := hm.cap
  obtain ⟨T, hTT⟩ : ∃ T, cat ps len = T := ⟨_, rfl⟩
  rw [hTT] at hT
  rw [hTT]
  unfold M.append
  by_cases hz : (m.file p).2 = 0
  · rw [if_neg (by rw [hz]; decide)]
    have hlt := M.file_lt hn hz
    rw [hz] at l1
    generalize (m.file p).1 = j at *
    obtain ⟨g, fcap, hv, hcap, hg, k0, k1, k2⟩ := h.fileCells hlt
    have hnow := htx _ (List.getElem_mem hlt)
    rw [← M.fileAt_eq hlt] at hnow
    have HV := Lib.hid hv
    have HNOW := Lib.hid hnow
    have HLT := Lib.hid hlt
    have HFL := Lib.hid hfl
    have HH := Lib.hid h
    have HP := Lib.hid hP
    have HTT := Lib.hid hTT
    obtain ⟨R0, hR0⟩ : ∃ R0, (if m.cap < m.used + T.length then (7, m) else if m.await = 1 then (1, m.ticked) else (0, m.ticked.setFile j ⟨(m.fileAt j).now ++ T, (m.fileAt j).safe, (m.fileAt j).steps ++ [⟨T, false, 0⟩]⟩)) = R0 := ⟨_, rfl⟩
    rw [hR0]
    have HR0 := Lib.hid hR0
    obtain ⟨us, hus2⟩ : ∃ us, m.used = us := ⟨_, rfl⟩
    rw [hus2] at L3 hus
    have HUS := Lib.hid hus2
    obtain ⟨CP, hCP⟩ : ∃ CP, m.cap = CP := ⟨_, rfl⟩
    have hcp := hm.cap
    rw [hCP] at c4 hcp
    have HCP := Lib.hid hCP
    clear h hm hn hsame l2 l3 hz k0 k1 k2 htx hv hnow hlt hfl hP hTT hR0 hus2 hCP
    go_enter Tryz.func30, Tryz.ntmps30
    go_wp2_with (go_at_call 72; refine l1.mono ?_; rintro r w2 ⟨rfl, rfl⟩)
    go_loopg [9, 10] len (fun r t i wr => ∃ (k : Nat) (tx : ByteArray), Hid (k + r = len) ∧ k ≤ len ∧ t = .string tx ∧ Hid (tx = strN (cat ps k)) ∧ i = .int .i64 (k : Int) ∧ wr = w)
    case atStart => exact ⟨0, _, Nat.zero_add _, Nat.zero_le _, rfl, rfl, rfl, rfl⟩
    case round =>
      obtain ⟨k, tx, hE, hk, rfl, htx, rfl, rfl⟩ := hrel
      by_cases hlt : k < len
      · obtain ⟨b, off, rfl, hb, hc⟩ := HP.out k hlt
        have hsz : tx.size + (ps k).size = (cat ps (k + 1)).length := by rw [htx.out, strN_size, cat, List.length_append, nums_length]
        have hle := cat_le ps (k + 1) len (by omega)
        rw [HTT.out] at hle
        have hmx : ¬ (((tx.size + (ps k).size : Nat) : Int) > IntKind.i64.max) := by
          show ¬ ((_ : Int) > 9223372036854775807); omega
        have hnew : tx ++ ps k = strN (cat ps (k + 1)) := by rw [htx.out, strN_add]; rfl
        have HNew := Lib.hid hnew
        clear hsz hle hnew
        generalize ps k = x at *
        have hm2 : (tx.size : Int) + (x.size : Int) ≤ 9223372036854775807 := by have : ¬ ((_ : Int) > 9223372036854775807) := hmx; omega
        go_wp2
        go_roundg (len - (k + 1))
        case measure => have := hE.out; omega
        case rel => exact ⟨k + 1, _, by show _ = _; omega, by omega, rfl, HNew.out, by go_num, rfl⟩
      · obtain rfl : k = len := by omega
        have htx2 := htx.out
        rw [HTT.out] at htx2
        have hsz : tx.size = T.length := by rw [htx2, strN_size]
        have HTX := Lib.hid htx2
        have hR1 := HR0.out
        rw [HUS.out, HCP.out, ← hsz] at hR1
        rw [← hsz] at hT
        have hs1 : IntKind.i64.wrap ((us : Int) + (tx.size : Int)) = (us : Int) + (tx.size : Int) := by rw [IntWalk.i64_in _ (by omega)]
        clear htx2 hsz htx hlt hE
        by_cases hsp : CP < us + tx.size
        · rw [if_pos hsp] at hR1
          subst hR1
          have hspi : (CP : Int) < (us : Int) + (tx.size : Int) := by omega
          go_wp2_with (go_at_call 43; ((with_reducible refine L3.out.mono ?_); rintro r w2 ⟨rfl, nd, rfl⟩))
          go_ret
          exact ⟨rfl, q, HS.out nd⟩
        · rw [if_neg hsp] at hR1
          have hspi : ¬ (CP : Int) < (us : Int) + (tx.size : Int) := by omega
          by_cases h1 : m.await = 1
          · have e1 : tickV m = 1 := by unfold tickV; rw [if_pos h1]
            rw [e1] at L2
            rw [if_pos h1] at hR1
            subst hR1
            clear h1 e1
            go_wp2_with (first
              | (go_at_call 43; ((with_reducible refine L3.out.mono ?_); rintro r w2 ⟨rfl, nd, rfl⟩))
              | (go_at_call 73; ((with_reducible refine (L2.out _).mono ?_); rintro r w2 ⟨rfl, hr, ht⟩)))
            go_ret
            exact ⟨rfl, q, ⟨hr, (Turn.of_drew (S := q.own R) nd).trans (ht.mono fun _ _ hk => .inl hk) (fun _ _ hh => hh), fun _ hk => .inl hk⟩⟩
          · have e1 : tickV m = 0 := by unfold tickV; rw [if_neg h1]
            rw [e1] at L2
            rw [if_neg h1] at hR1
            subst hR1
            clear h1 e1
            go_wp2_with (first
              | (go_at_call 43; ((with_reducible refine L3.out.mono ?_); rintro r w2 ⟨rfl, nd, rfl⟩))
              | (go_at_call 73; ((with_reducible refine (L2.out _).mono ?_); rintro r w2 ⟨rfl, hr, ht⟩)))
            have hlt2 : j < m.ticked.files.length := by rw [M.ticked_files]; exact HLT.out
            have hr2 : RefAt w2.drew R q m.ticked := hr.below ((Below.refl _ _).drewN 1)
            have hv2 : q.fv = .slice (some ⟨g, 0, none⟩) m.ticked.files.length fcap := by rw [M.ticked_files]; exact HV.out
            have ht2 : Turn (q.own R) wr w2.drew := (Turn.of_drew (S := q.own R) nd).trans ((ht.drew 1).mono fun _ _ hk => .inl hk) (fun _ _ hh => hh)
            obtain ⟨g', cap', hv', hcc', hg', k0', k1', k2'⟩ := hr2.fileCells hlt2
            clear k1' k2' hcc'
            have hgg : g' = g := by rw [hv2] at hv'; simp at hv'; exact hv'.1.symm
            subst hgg
            rw [M.ticked_fileAt] at k0'
            obtain ⟨FN, hFN⟩ : ∃ FN, m.files.length = FN := ⟨_, rfl⟩
            have c3' : w2.drew.cell? ⟨R, 3, none⟩ = some (.slice (some ⟨g', 0, none⟩) FN fcap) := by
              have := hr2.cell 3
              rw [show (refCells q m.ticked)[3]? = some q.fv from rfl, HV.out, hFN] at this
              exact this
            have hltF : j < FN := by rw [← hFN]; exact HLT.out
            have hflF : FN < 1099511627776 := by rw [← hFN]; exact HFL.out
            have fz : ∀ i, w2.drew.frozen? ⟨g', i, none⟩ = false := fun i => by
              have hrw := hr2.files
              rw [hv2] at hrw
              exact World.ownsRow.frozenAt hrw i
            have hlc : (m.ticked.fileAt j).steps.length < 1099511627776 := by rw [M.ticked_fileAt]; exact HNOW.out.2
            obtain ⟨tn, htn⟩ : ∃ tn, strN (m.fileAt j).now = tn := ⟨_, rfl⟩
            rw [htn] at k0'
            have hns : tn.size < 1099511627776 := by rw [← htn, strN_size]; exact HNOW.out.1
            have hmx : ¬ (((tn.size + tx.size : Nat) : Int) > IntKind.i64.max) := by
              show ¬ ((_ : Int) > 9223372036854775807); omega
            have hm2 : ¬ 9223372036854775807 < tn.size + tx.size := by omega
            have hnew : tn ++ tx = strN ((m.fileAt j).now ++ T) := by rw [← htn, HTX.out, strN_cat]
            have HNew := Lib.hid hnew
            have HR2 := Lib.hid hr2
            have HT2 := Lib.hid ht2
            have HV2 := Lib.hid hv2
            have HFN := Lib.hid hFN
            clear hr ht hr2 ht2 hv2 hv' hg' hFN htn hnew
            refine wp_region_still_tail 15 (by kernel_rfl) (by kernel_rfl) ?_
            simp only [List.take_succ_cons, List.take_zero, List.drop_succ_cons, List.drop_zero]
            change wpStill _ _ w2.drew _ _ _
            repeat still_step
            refine wpStill_nil ?_
            change wpList _ _ _ _ _ w2.drew
            generalize w2.drew = w3 at *
            go_wp2_with fail
            obtain ⟨w4, hw4⟩ : ∃ w4, w3.setCell ⟨g', j * 3, none⟩ (.string (tn ++ tx)) = w4 := ⟨_, rfl⟩
            rw [hw4]
            obtain ⟨ca, cc, a6, c6, w6, d1, d2, d3, d4, hrun, d5, ⟨u6, d6⟩, d7, hd⟩ := change_fin (w4 := w4) HR2.out hlt2 HV2.out ((m.fileAt j).now ++ T) ⟨T, false, 0⟩ (x0 := .string tx) (x1 := .bool false) (x2 := .int .i64 0) (by rw [HTX.out]; rfl) hlc (by rw [← HNew.out]; exact hw4)
            rw [HV.out, HFN.out] at d1 d3 d5
            have b1 : w4.drew.cell? ⟨R, 3, none⟩ = _ := d1
            have b2 : w4.drew.cell? ⟨g', j * 3 + 2, none⟩ = _ := d2
            obtain ⟨LN, hLN⟩ : ∃ LN, (m.ticked.fileAt j).steps.length = LN := ⟨_, rfl⟩
            rw [hLN] at b2 d4 hrun hd
            have HRun := Lib.hid hrun
            have hdd : RefDone wr R q _ _ _ := ⟨hd.at', HT2.out.trans hd.turn (fun _ _ hh => hh), fun k hk => by
              rcases hd.own k hk with h5 | h5
              · exact .inl h5
              · have := HT2.out.size; exact .inr (by omega)⟩
            rw [M.ticked_fileAt] at hdd
            have HDone := Lib.hid hdd
            clear hrun hd hdd hw4 hLN d1 d2 hlc
            go_region_law (refine Row.step_by rfl (.tmp 78) (.tmp 81) _ rfl _ _ rfl rfl HRun.out ?_)
            all_goals
              go_wp2
              go_ret
              exact ⟨rfl, _, HDone.out⟩
  · rw [if_pos hz]
    have hz' : ¬ (((m.file p).2 : Nat) : Int) = 0 := by omega
    generalize (m.file p).2 = c at *
    generalize (m.file p).1 = j at *
    clear h hm hn hsame l2 hz hP
    go_enter Tryz.func30, Tryz.ntmps30
    go_wp2_with (go_at_call 72; refine l1.mono ?_; rintro r w2 ⟨rfl, rfl⟩)
    go_ret
    exact ⟨rfl, q, HS.out 0⟩

end
end Go.Proofs.YtmmlefbokplnnaaGreatDoor.Disk

namespace Go.Proofs.YtmmlefbokplnnaaGreatDoor.Disk
open Go.RowKit Go Go.Proofs.YtmmlefbokplnnaaGreatDoor.Base Go.Proofs.YtmmlefbokplnnaaGreatDoor.Map

theorem changeUnits_take (l : List Change) (j : Nat) (hj : j < l.length) : changeUnits (l.take (j + 1)) = changeUnits (l.take j) + (l[j]'hj).units := by
  rw [List.take_succ_eq_append_getElem hj, changeUnits_append]
  simp [changeUnits]
theorem changeUnits_take_le (l : List Change) (j : Nat) : changeUnits (l.take j) ≤ changeUnits l := by
  have := changeUnits_append (l.take j) (l.drop j)
  rw [List.take_append_drop] at this
  omega

theorem replay_drop (l : List Change) (j : Nat) (hj : j < l.length) (now : List Nat) (left : Nat) (z : Bool) : replay (l.drop j) now left z = if (l[j]'hj).cut then (if 0 < left then replay (l.drop (j + 1)) (now.take (l[j]'hj).size) (left - 1) z else replay (l.drop (j + 1)) now 0 false) else replay (l.drop (j + 1)) (now ++ (l[j]'hj).text.take (min (l[j]'hj).text.length left)) (left - min (l[j]'hj).text.length left) z := by
  rw [List.drop_eq_getElem_cons hj, replay]
theorem cutsOk_drop {l : List Change} {j : Nat} (hj : j < l.length) {now : List Nat} (h : CutsOk (l.drop j) now) : if (l[j]'hj).cut then (l[j]'hj).size ≤ now.length ∧ CutsOk (l.drop (j + 1)) (now.take (l[j]'hj).size) else CutsOk (l.drop (j + 1)) (now ++ (l[j]'hj).text) := by
  rw [List.drop_eq_getElem_cons hj, CutsOk] at h
  exact h

set_option maxRecDepth 100000 in
set_option maxHeartbeats 4000000 in
theorem keep_ref {w : World} {f : FB} {v : Value} (hrow : w.ownsRow 0 120 3 v f.steps.length (f.steps.flatMap changeC)) (hl : f.steps.length < 1099511627776) (hu : changeUnits f.steps < 1099511627776) (hsl : f.safe.length < 1099511627776) (hck : CutsOk f.steps f.safe) (hfit : ∀ c ∈ f.steps, c.cut = true → c.text = [])
    (wish : Int) (hw : inI wish) (zeros : Bool) :
    Calls Tryz.prog 54 #[.agg #[.string (strN f.now), .string (strN f.safe), v], .int .i64 wish, .bool zeros] w fun r w' =>
      r = .returned (.agg #[.string (strN (f.keep wish zeros).now), .string (strN (f.keep wish zeros).now), .slice none 0 0]) ∧ Below w.heap.size w w' := by
  obtain ⟨L, hL⟩ : ∃ L, f.steps = L := ⟨_, rfl⟩
  obtain ⟨N, hN⟩ : ∃ N, L.length = N := ⟨_, rfl⟩
  have hk : (f.keep wish zeros).now = if zeros && (replay L f.safe (share wish (changeUnits L)) true).2 then (replay L f.safe (share wish (changeUnits L)) true).1 ++ List.replicate (changeUnits L - share wish (changeUnits L)) 0 else (replay L f.safe (share wish (changeUnits L)) true).1 := by
    unfold FB.keep; rw [hL]
  rw [hk]
  rw [hL] at hrow hl hu hck hfit
  rw [hN] at hrow hl
  obtain ⟨ao, cap, rfl, hcap, hr⟩ := row_open (f := changeC) (k := 3) (fun _ => rfl) hrow hN
  obtain ⟨U, hU⟩ : ∃ U, changeUnits L = U := ⟨_, rfl⟩
  rw [hU] at hu
  rw [hU]
  have hshl := share_le wish U
  have hsh := fun W => share_ref wish U hw (by omega) W
  obtain ⟨LF, hLF⟩ : ∃ LF, share wish U = LF := ⟨_, rfl⟩
  rw [hLF] at hshl hsh
  rw [hLF]
  have hT : ∃ RR, replay L f.safe LF true = RR := ⟨_, rfl⟩
  obtain ⟨RR, hRR⟩ := hT
  rw [hRR]
  obtain ⟨sf, hsf⟩ : ∃ sf, f.safe = sf := ⟨_, rfl⟩
  rw [hsf] at hsl hck hRR
  rw [hsf]
  obtain ⟨tnow, htn⟩ : ∃ t, strN f.now = t := ⟨_, rfl⟩
  rw [htn]
  obtain ⟨tsf, hts⟩ : ∃ t, strN sf = t := ⟨_, rfl⟩
  rw [hts]
  obtain ⟨AN, hAN⟩ : ∃ AN, strN (if (zeros && RR.2) = true then RR.1 ++ List.replicate (U - LF) 0 else RR.1) = AN := ⟨_, rfl⟩
  rw [hAN]
  have HAN := Lib.hid hAN
  have HSH := Lib.hid hsh
  have HRR := Lib.hid hRR
  have HTS := Lib.hid hts
  have HU := Lib.hid hU
  have HN := Lib.hid hN
  have HCK := Lib.hid hck
  have HFIT := Lib.hid hfit
  have HR := Lib.hid hr
  have HSL := Lib.hid hsl
  have hz0 : ∃ q, q = w.heap.size := ⟨_, rfl⟩
  clear hAN hk hL hrow hr hsh hRR hts hU hN hck hfit hLF hsf htn hsl hz0
  go_enter Tryz.func54, Tryz.ntmps54
  go_wp2_with fail
  obtain ⟨W, hW⟩ : ∃ W, (w.alloc (.cells #[.string tnow, .string tsf, .slice ao N cap] 101)).alloc (.cells #[.string ⟨#[]⟩, .string ⟨#[]⟩, .slice none 0 0] 101) = W := ⟨_, rfl⟩
  rw [hW]
  have hB : Below w.heap.size w W := by rw [← hW]; exact (below_alloc w _).trans ((below_alloc _ _).mono (by simp))
  have hb0 : W.heap[w.heap.size]? = some (.cells #[.string tnow, .string tsf, .slice ao N cap] 101) := by
    rw [← hW, (below_alloc _ _).block w.heap.size (by simp)]
    exact heap_alloc_new w _
  have hb1 : W.heap[w.heap.size + 1]? = some (.cells #[.string ⟨#[]⟩, .string ⟨#[]⟩, .slice none 0 0] 101) := by
    rw [← hW]
    have := heap_alloc_new (w.alloc (.cells #[.string tnow, .string tsf, .slice ao N cap] 101)) (.cells #[.string ⟨#[]⟩, .string ⟨#[]⟩, .slice none 0 0] 101)
    rwa [show (w.alloc (.cells #[.string tnow, .string tsf, .slice ao N cap] 101)).heap.size = w.heap.size + 1 from by simp] at this
  have b1 : W.cell? ⟨w.heap.size, 1, none⟩ = some (.string tsf) := by rw [cell_of_row _ _ 1 _ _ _ hb0]; rfl
  have b2 : W.cell? ⟨w.heap.size, 2, none⟩ = some (.slice ao N cap) := by rw [cell_of_row _ _ 2 _ _ _ hb0]; rfl
  have hWs : w.heap.size + 2 ≤ W.heap.size := by rw [← hW]; simp
  have HRW := Lib.hid (HR.out.below hB)
  have HB := Lib.hid hB
  have HB1 := Lib.hid hb1
  clear hW hB hb0 hb1
  go_loopg [7, 8] N (fun r u i wr => ∃ (j : Nat), Hid (j + r = N) ∧ j ≤ N ∧ u = .int .i64 ((changeUnits (L.take j) : Nat) : Int) ∧ i = .int .i64 (j : Int) ∧ wr = W)
  case atStart => exact ⟨0, Nat.zero_add _, Nat.zero_le _, rfl, rfl, rfl⟩
  case round =>
    obtain ⟨j, hE, hj, rfl, rfl, rfl⟩ := hrel
    by_cases hlt : j < N
    · have hjl : j < L.length := by rw [HN.out]; exact hlt
      obtain ⟨g, rfl, hg, hc⟩ := HRW.out j hjl
      have hstep := changeUnits_take L j hjl
      have hle := changeUnits_take_le L (j + 1)
      rw [HU.out] at hle
      have c0 : wr.cell? ⟨g, j * 3, none⟩ = some (.string (strN (L[j]'hjl).text)) := hc 0 (by omega)
      have c1 : wr.cell? ⟨g, j * 3 + 1, none⟩ = some (.bool (L[j]'hjl).cut) := hc 1 (by omega)
      obtain ⟨u0, hu0⟩ : ∃ u0, changeUnits (L.take j) = u0 := ⟨_, rfl⟩
      obtain ⟨u1, hu1⟩ : ∃ u1, changeUnits (L.take (j + 1)) = u1 := ⟨_, rfl⟩
      rw [hu0, hu1] at hstep
      rw [hu1] at hle
      rw [hu0]
      have HU1 := Lib.hid hu1
      have hts : (strN (L[j]'hjl).text).size = (L[j]'hjl).text.length := strN_size _
      unfold Change.units at hstep
      generalize strN (L[j]'hjl).text = tx at c0 hts
      generalize (L[j]'hjl).text.length = tl at hts hstep
      cases hcu : (L[j]'hjl).cut
      · rw [hcu] at c1 hstep
        simp only [Bool.false_eq_true, if_false, Nat.add_zero] at hstep
        have hu1l : u1 < 1099511627776 := by omega
        have hs2 : (u0 : Int) + (tx.size : Int) = (u1 : Int) := by omega
        clear hc hcu hu0 hu1 hstep hts hle
        go_wp2
        go_roundg (N - (j + 1))
        case measure => have := hE.out; omega
        case rel => exact ⟨j + 1, by show _ = _; omega, by omega, by rw [HU1.out], by go_num, rfl⟩
      · rw [hcu] at c1 hstep
        simp only [if_true] at hstep
        obtain ⟨u2, hu2⟩ : ∃ u2, u0 + tx.size = u2 := ⟨_, rfl⟩
        have hs1 : (u0 : Int) + (tx.size : Int) = (u2 : Int) := by omega
        have hs3 : (u2 : Int) + 1 = (u1 : Int) := by omega
        have hu2l : u2 < 1099511627776 := by omega
        clear hc hcu hu0 hu1 hstep hts hle hu2
        go_wp2
        go_roundg (N - (j + 1))
        case measure => have := hE.out; omega
        case rel => exact ⟨j + 1, by show _ = _; omega, by omega, by rw [HU1.out], by go_num, rfl⟩
    · obtain rfl : N = j := by omega
      have hall : L.take N = L := by rw [List.take_of_length_le]; rw [HN.out]; exact Nat.le_refl _
      rw [hall, HU.out]
      have hsub : IntKind.i64.wrap ((U : Int) - (LF : Int)) = ((U - LF : Nat) : Int) := by rw [IntWalk.i64_in _ (by omega)]; omega
      have hsub2 : (U : Int) - (LF : Int) = ((U - LF : Nat) : Int) := by omega
      clear hall hlt hE
      go_wp2_with (go_at_call 51; ((with_reducible refine (HSH.out _).mono ?_); rintro r w2 ⟨rfl, rfl⟩))
      obtain ⟨wo, hwo⟩ : ∃ wo : World, wo = wr := ⟨_, rfl⟩
      subst hwo
      go_loopg [2, 9, 11, 12] N (fun r z lf nw i w2 => ∃ (j : Nat) (now : List Nat) (left : Nat) (zf : Bool) (zz : Bool), Hid (j + r = N) ∧ j ≤ N ∧ z = .bool zz ∧ Hid (zz = (zeros && zf)) ∧ lf = .int .i64 (left : Int) ∧ (∃ tn, nw = .string tn ∧ Hid (tn = strN now)) ∧ i = .int .i64 (j : Int) ∧
          Hid (replay (L.drop j) now left zf = RR) ∧ Hid (0 < left → CutsOk (L.drop j) now) ∧ Hid (now.length + left ≤ sf.length + LF) ∧ left ≤ LF ∧ Hid (Below wo.heap.size wo w2))
      case atStart =>
        refine ⟨0, sf, LF, true, zeros, Nat.zero_add _, Nat.zero_le _, rfl, by show _ = _; simp, rfl, ⟨_, rfl, HTS.out.symm⟩, rfl, by show _ = _; rw [List.drop_zero]; exact HRR.out, ?_, Nat.le_refl _, Nat.le_refl _, Below.refl _ _⟩
        intro _; rw [List.drop_zero]; exact HCK.out
      case round =>
        obtain ⟨j, now, left, zf, zz, hE, hj, rfl, HZ, rfl, ⟨tn, rfl, HTN⟩, rfl, HRP, HC2, HLEN, hleft, HB2⟩ := hrel
        have hbs := HB2.out.size
        have p2 : wr.cell? ⟨w.heap.size, 2, none⟩ = some (.slice ao N cap) := (HB2.out.cell (by show w.heap.size < _; omega)).trans b2
        have hnl : now.length < 4611686018427387904 := by have := HLEN.out; have := HSL.out; omega
        have htn := HTN.out
        have htsz : tn.size = now.length := by rw [htn, strN_size]
        by_cases hlt : j < N
        · have hjl : j < L.length := by rw [HN.out]; exact hlt
          obtain ⟨g, rfl, hg, hc⟩ := HRW.out j hjl
          have hstep := changeUnits_take L j hjl
          have hle := changeUnits_take_le L (j + 1)
          rw [HU.out] at hle
          have hrp := HRP.out
          rw [replay_drop L j hjl] at hrp
          have hcd := fun h => cutsOk_drop hjl (HC2.out h)
          obtain ⟨c, hcc⟩ : ∃ c, L[j]'hjl = c := ⟨_, rfl⟩
          rw [hcc] at hc hstep hrp hcd
          obtain ⟨ct, cc, cs⟩ := c
          have q0 : wr.cell? ⟨g, j * 3, none⟩ = some (.string (strN ct)) := (HB2.out.cell hg).trans (hc 0 (by omega))
          have q1 : wr.cell? ⟨g, j * 3 + 1, none⟩ = some (.bool cc) := (HB2.out.cell hg).trans (hc 1 (by omega))
          have q2 : wr.cell? ⟨g, j * 3 + 2, none⟩ = some (.int .i64 (cs : Int)) := (HB2.out.cell hg).trans (hc 2 (by omega))
          simp only at hrp hcd hstep
          have hba : Below wr.heap.size wr (wr.alloc (.cells #[.string (strN ct), .bool cc, .int .i64 (cs : Int)] 120)) := below_alloc _ _
          obtain ⟨tc, htc⟩ : ∃ tc, strN ct = tc := ⟨_, rfl⟩
          have htcs : tc.size = ct.length := by rw [← htc, strN_size]
          rw [htc] at q0 hba
          have HBA := Lib.hid (HB2.out.trans (hba.mono hbs))
          have htl : ct.length ≤ U := by unfold Change.units at hstep; simp only at hstep; omega
          have HTC := Lib.hid htc
          clear hc hcc hstep hle hba htc
          cases cc
          · simp only [Bool.false_eq_true, if_false] at hrp hcd
            by_cases hn : left < tc.size
            · have hmin : min ct.length left = left := by omega
              rw [hmin] at hrp
              have hnew : tn ++ tc.extract 0 left = strN (now ++ ct.take left) := by rw [htn, ← HTC.out, strN_take, strN_cat]
              have hm1 : (tn.size : Int) + ((tc.extract 0 left).size : Int) ≤ 9223372036854775807 := by rw [ByteArray.size_extract]; omega
              have hlt2 : (left : Int) < (tc.size : Int) := by omega
              have hln : left ≤ tc.size := by omega
              have HNew := Lib.hid hnew
              have HRP2 := Lib.hid hrp
              have hlen2 : (now ++ ct.take left).length + 0 ≤ sf.length + LF := by have := HLEN.out; rw [List.length_append, List.length_take]; omega
              have HLEN2 := Lib.hid hlen2
              have hsz0 : IntKind.i64.wrap ((left : Int) - (left : Int)) = 0 := by rw [Int.sub_self]; rfl
              clear hrp hcd hnew htsz htcs hmin htn hnl hlen2
              go_wp2
              go_roundg (N - (j + 1))
              case measure => have := hE.out; omega
              case rel =>
                refine ⟨j + 1, now ++ ct.take left, 0, zf, zz, by show _ = _; have := hE.out; omega, by omega, rfl, HZ, by go_num, ⟨_, rfl, HNew.out⟩, by go_num, ?_, fun h => absurd h (by omega), HLEN2.out, Nat.zero_le _, HBA.out⟩
                show _ = _
                have := HRP2.out
                rwa [Nat.sub_self] at this
            · have hmin : min ct.length left = ct.length := by omega
              rw [hmin] at hrp
              rw [List.take_length] at hrp
              have hnew : tn ++ tc = strN (now ++ ct) := by rw [htn, ← HTC.out, strN_cat]
              have hm1 : (tn.size : Int) + (tc.size : Int) ≤ 9223372036854775807 := by omega
              have hlt2 : ¬ (left : Int) < (tc.size : Int) := by omega
              obtain ⟨l2, hl2⟩ : ∃ l2, l2 = left - tc.size := ⟨_, rfl⟩
              have hsub3 : (left : Int) - (tc.size : Int) = (l2 : Int) := by omega
              have hl2l : l2 ≤ LF := by omega
              have HNew := Lib.hid hnew
              have hrp2 : replay (L.drop (j + 1)) (now ++ ct) l2 zf = RR := by rw [hl2, htcs]; exact hrp
              have HRP2 := Lib.hid hrp2
              have hlen2 : (now ++ ct).length + l2 ≤ sf.length + LF := by have := HLEN.out; rw [List.length_append]; omega
              have HLEN2 := Lib.hid hlen2
              have hcd2 : 0 < l2 → CutsOk (L.drop (j + 1)) (now ++ ct) := fun h => hcd (by omega)
              have HCD2 := Lib.hid hcd2
              clear hrp hcd hnew htsz htcs hmin htn hnl hlen2 hl2 hrp2 hcd2
              go_wp2
              go_roundg (N - (j + 1))
              case measure => have := hE.out; omega
              case rel =>
                exact ⟨j + 1, now ++ ct, l2, zf, zz, by show _ = _; have := hE.out; omega, by omega, rfl, HZ, by go_num, ⟨_, rfl, HNew.out⟩, by go_num, HRP2.out, HCD2.out, HLEN2.out, hl2l, HBA.out⟩
          · simp only [if_true] at hrp hcd
            by_cases h0 : 0 < left
            · rw [if_pos h0] at hrp
              obtain ⟨k1, k2⟩ := hcd h0
              have hnew : tn.extract 0 cs = strN (now.take cs) := by rw [htn, strN_take]
              have hcsl : cs ≤ tn.size := by omega
              have h0i : (0 : Int) < (left : Int) := by omega
              obtain ⟨l2, hl2⟩ : ∃ l2, l2 + 1 = left := ⟨left - 1, by omega⟩
              have hsub3 : (left : Int) - 1 = (l2 : Int) := by omega
              have hl2l : l2 ≤ LF := by omega
              have hrp2 : replay (L.drop (j + 1)) (now.take cs) l2 zf = RR := by rw [← hl2, Nat.add_sub_cancel] at hrp; exact hrp
              have HRP2 := Lib.hid hrp2
              have HNew := Lib.hid hnew
              have hlen2 : (now.take cs).length + l2 ≤ sf.length + LF := by have := HLEN.out; rw [List.length_take]; omega
              have HLEN2 := Lib.hid hlen2
              have HK2 := Lib.hid k2
              have hszb : tn.size < 4611686018427387904 := by omega
              clear hrp hcd hnew htsz htcs htn hnl hlen2 hrp2 k2 k1
              go_wp2
              go_roundg (N - (j + 1))
              case measure => have := hE.out; omega
              case rel =>
                exact ⟨j + 1, now.take cs, l2, zf, zz, by show _ = _; have := hE.out; omega, by omega, rfl, HZ, by go_num, ⟨_, rfl, HNew.out⟩, by go_num, HRP2.out, fun _ => HK2.out, HLEN2.out, hl2l, HBA.out⟩
            · rw [if_neg h0] at hrp
              obtain rfl : left = 0 := by omega
              have HRP2 := Lib.hid hrp
              clear hrp hcd htsz htcs htn hnl h0
              go_wp2
              go_roundg (N - (j + 1))
              case measure => have := hE.out; omega
              case rel =>
                exact ⟨j + 1, now, 0, false, false, by show _ = _; have := hE.out; omega, by omega, rfl, by show _ = _; simp, by go_num, ⟨_, rfl, HTN.out⟩, by go_num, HRP2.out, fun h => absurd h (by omega), HLEN.out, Nat.zero_le _, HBA.out⟩
        · obtain rfl : N = j := by omega
          have hrr : (now, zf) = RR := by
            have := HRP.out
            rw [List.drop_of_length_le (by rw [HN.out]; exact Nat.le_refl _)] at this
            exact this
          have han := HAN.out
          rw [← hrr] at han
          obtain ⟨LO, hLO⟩ : ∃ LO, U - LF = LO := ⟨_, rfl⟩
          rw [hLO] at han ⊢
          have hLOl : LO < 1099511627776 := by omega
          have hzz := HZ.out
          simp only at han
          rw [← hzz] at han
          have HTT := Lib.hid htn
          have hnll := HLEN.out
          have hsll := HSL.out
          have p6 : wr.heap[w.heap.size + 1]? = some (.cells #[.string ⟨#[]⟩, .string ⟨#[]⟩, .slice none 0 0] 101) := by
            rw [HB2.out.block _ (by omega)]; exact HB1.out
          have HBW := Lib.hid (HB.out.trans (HB2.out.mono HB.out.size))
          have fin : ∀ (t : ByteArray), Below w.heap.size w (((wr.setCell ⟨w.heap.size + 1, 0, none⟩ (.string t)).setCell ⟨w.heap.size + 1, 1, none⟩ (.string t)).setCell ⟨w.heap.size + 1, 2, none⟩ (.slice none 0 0)) := fun t =>
            ((HBW.out.setCell (by show w.heap.size ≤ w.heap.size + 1; omega) _).setCell (by show w.heap.size ≤ w.heap.size + 1; omega) _).setCell (by show w.heap.size ≤ w.heap.size + 1; omega) _
          have HFin := Lib.hid fin
          have y0 : ∀ i, wr.cell? ⟨w.heap.size + 1, i, none⟩ = (#[.string ⟨#[]⟩, .string ⟨#[]⟩, .slice none 0 0] : Array Value)[i]? := fun i => by rw [cell_of_row _ _ i _ _ _ p6]
          have z0 : wr.cell? ⟨w.heap.size + 1, 0, none⟩ = some (.string ⟨#[]⟩) := y0 0
          have z1 : wr.cell? ⟨w.heap.size + 1, 1, none⟩ = some (.string ⟨#[]⟩) := y0 1
          have z2 : wr.cell? ⟨w.heap.size + 1, 2, none⟩ = some (.slice none 0 0) := y0 2
          have zf0 : ∀ i, wr.frozen? ⟨w.heap.size + 1, i, none⟩ = false := fun i => by simp only [World.frozen?, p6]; rfl
          have hb6 : ∀ t, (wr.setCell ⟨w.heap.size + 1, 0, none⟩ (.string t)).heap[w.heap.size + 1]? = some (.cells #[.string t, .string ⟨#[]⟩, .slice none 0 0] 101) := fun t => heap_setCell_same wr _ 0 _ _ (.string t) p6
          have hb7 : ∀ t, ((wr.setCell ⟨w.heap.size + 1, 0, none⟩ (.string t)).setCell ⟨w.heap.size + 1, 1, none⟩ (.string t)).heap[w.heap.size + 1]? = some (.cells #[.string t, .string t, .slice none 0 0] 101) := fun t => heap_setCell_same _ _ 1 _ _ (.string t) (hb6 t)
          have hb8 : ∀ t, (((wr.setCell ⟨w.heap.size + 1, 0, none⟩ (.string t)).setCell ⟨w.heap.size + 1, 1, none⟩ (.string t)).setCell ⟨w.heap.size + 1, 2, none⟩ (.slice none 0 0)).heap[w.heap.size + 1]? = some (.cells #[.string t, .string t, .slice none 0 0] 101) := fun t => heap_setCell_same _ _ 2 _ _ (.slice none 0 0) (hb7 t)
          have k1 : ∀ t, (wr.setCell ⟨w.heap.size + 1, 0, none⟩ (.string t)).cell? ⟨w.heap.size + 1, 1, none⟩ = some (.string ⟨#[]⟩) := fun t => by rw [cell_of_row _ _ 1 _ _ _ (hb6 t)]; rfl
          have k2 : ∀ t, ((wr.setCell ⟨w.heap.size + 1, 0, none⟩ (.string t)).setCell ⟨w.heap.size + 1, 1, none⟩ (.string t)).cell? ⟨w.heap.size + 1, 2, none⟩ = some (.slice none 0 0) := fun t => by rw [cell_of_row _ _ 2 _ _ _ (hb7 t)]; rfl
          have f1 : ∀ t, (wr.setCell ⟨w.heap.size + 1, 0, none⟩ (.string t)).frozen? ⟨w.heap.size + 1, 1, none⟩ = false := fun t => by simp only [World.frozen?, hb6 t]; rfl
          have f2 : ∀ t, ((wr.setCell ⟨w.heap.size + 1, 0, none⟩ (.string t)).setCell ⟨w.heap.size + 1, 1, none⟩ (.string t)).frozen? ⟨w.heap.size + 1, 2, none⟩ = false := fun t => by simp only [World.frozen?, hb7 t]; rfl
          have r0 : ∀ t i, (((wr.setCell ⟨w.heap.size + 1, 0, none⟩ (.string t)).setCell ⟨w.heap.size + 1, 1, none⟩ (.string t)).setCell ⟨w.heap.size + 1, 2, none⟩ (.slice none 0 0)).cell? ⟨w.heap.size + 1, i, none⟩ = (#[.string t, .string t, .slice none 0 0] : Array Value)[i]? := fun t i => by rw [cell_of_row _ _ i _ _ _ (hb8 t)]
          have htl : tn.size + LO < 4611686018427387904 := by omega
          have hNN : ¬ (N : Int) < (N : Int) := by omega
          clear hLO hsub hsub2 hlt hE hzz HRP HC2 htsz fin htn hnl hnll hsll y0 hb6 hb7 hb8 p6 hrr
          cases zz
          · simp only [Bool.false_eq_true, if_false] at han
            have HT : Hid (tn = AN) := Lib.hid (by rw [HTT.out]; exact han)
            clear han
            go_wp2_with fail
            go_loopg [11, 15] LO (fun r nw i w3 => Hid (r = LO) ∧ nw = .string tn ∧ i = .int .i64 0 ∧ w3 = wr)
            case atStart => exact ⟨rfl, rfl, rfl, rfl⟩
            case round =>
              obtain ⟨hE, rfl, rfl, rfl⟩ := hrel
              have s1 := k1 tn
              have s2 := k2 tn
              have g1 := f1 tn
              have g2 := f2 tn
              have t0 := r0 tn 0
              have t1 := r0 tn 1
              have t2 := r0 tn 2
              go_wp2
              all_goals
                exact bodyPost_ret (v := .agg #[.string tn, .string tn, .slice none 0 0]) (by simp [results, Tryz.results54, go_sem, t0, t1, t2]) rfl ⟨by rw [HT.out], HFin.out tn⟩
          · simp only [if_true] at han
            have HT := Lib.hid han
            have htsz : tn.size = now.length := by rw [HTT.out, strN_size]
            have HTZ := Lib.hid htsz
            clear han htsz
            go_wp2_with fail
            go_loopg [11, 15] LO (fun r nw i w3 => ∃ (k : Nat) (tk : ByteArray), Hid (k + r = LO) ∧ k ≤ LO ∧ nw = .string tk ∧ Hid (tk = strN (now ++ List.replicate k 0)) ∧ i = .int .i64 (k : Int) ∧ w3 = wr)
            case atStart => exact ⟨0, tn, Nat.zero_add _, Nat.zero_le _, rfl, by show _ = _; rw [HTT.out]; simp, rfl, rfl⟩
            case round =>
              obtain ⟨k, tk, hE, hk, rfl, HTK, rfl, rfl⟩ := hrel
              by_cases hlt : k < LO
              · have htk := HTK.out
                have htks : tk.size = tn.size + k := by rw [htk, strN_size, List.length_append, List.length_replicate, HTZ.out]
                have hnew : tk ++ ⟨#[0]⟩ = strN (now ++ List.replicate (k + 1) 0) := by
                  rw [htk, show (⟨#[0]⟩ : ByteArray) = strN [0] from rfl, strN_cat, List.append_assoc, List.replicate_succ']
                have hm1 : (tk.size : Int) + ((⟨#[0]⟩ : ByteArray).size : Int) ≤ 9223372036854775807 := by
                  have : (⟨#[0]⟩ : ByteArray).size = 1 := rfl
                  rw [this]; omega
                have hm2 : (tk.size : Int) + 1 ≤ 9223372036854775807 := by omega
                have HNew := Lib.hid hnew
                clear htk htks hnew
                go_wp2
                go_roundg (LO - (k + 1))
                case measure => have := hE.out; omega
                case rel => exact ⟨k + 1, _, by show _ = _; have := hE.out; omega, by omega, rfl, HNew.out, by go_num, rfl⟩
              · obtain rfl : LO = k := by omega
                have HT2 : Hid (tk = AN) := Lib.hid (by rw [HTK.out]; exact HT.out)
                have s1 := k1 tk
                have s2 := k2 tk
                have g1 := f1 tk
                have g2 := f2 tk
                have t0 := r0 tk 0
                have t1 := r0 tk 1
                have t2 := r0 tk 2
                clear hlt
                go_wp2
                exact bodyPost_ret (v := .agg #[.string tk, .string tk, .slice none 0 0]) (by simp [results, Tryz.results54, go_sem, t0, t1, t2]) rfl ⟨by rw [HT2.out], HFin.out tk⟩

end Go.Proofs.YtmmlefbokplnnaaGreatDoor.Disk
