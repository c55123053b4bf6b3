/-
  The texts DUndo, DKeep, joined. Own text.
-/
import Derived.Test.YtmmlefbokplnnaaGreatDoorJ05
import Derived.StillTailTactics
import Derived.Deep.RegionLaw
set_option linter.unusedVariables false
set_option linter.unusedSimpArgs false
namespace Go.Proofs.YtmmlefbokplnnaaGreatDoor.Disk
open Go.RowKit Go Go.Proofs.YtmmlefbokplnnaaGreatDoor.Base

theorem row_len {w : World} {e : TypeId} {size : Nat} {v : Value} {n : Nat} {xs : List Value} (h : w.ownsRow 0 e size v n xs) : ∃ ad cap, v = .slice ad n cap ∧ n ≤ cap := by
  rcases h.2 with ⟨h1, h2⟩ | ⟨g, cap, cur, h1, _, _, h3, _⟩
  · exact ⟨none, 0, by rw [h1, h2], by omega⟩
  · exact ⟨_, _, h1, h3⟩

/-- a row cut shorter -/
theorem row_take {w : World} {e : TypeId} {ad : Option Addr} {n cap : Nat} {xs : List Value} (h : w.ownsRow 0 e 1 (.slice ad n cap) n xs) (m : Nat) (hm : m ≤ n) : w.ownsRow 0 e 1 (.slice ad m cap) m (xs.take m) := by
  have hl := h.1
  refine ⟨by simp [hl]; omega, ?_⟩
  rcases h.2 with ⟨h1, h2⟩ | ⟨g, cap', cur, h1, h2, h3, h4, h5, h6, h7⟩
  · injection h1 with h1 h2' h3'
    subst h1
    exact .inl ⟨by rw [h3', show m = 0 from by omega], by omega⟩
  · injection h1 with h1 h2' h3'
    subst h1; subst h3'
    refine .inr ⟨g, cap, cur, rfl, h2, h3, by omega, h5, h6, ?_⟩
    rw [← h7, List.take_take]
    congr 1
    omega

theorem take_reverse (l : List PStep) (j : Nat) (hj : j < l.length) : (l.take (j + 1)).reverse = (l[j]'hj) :: (l.take j).reverse := by
  rw [List.take_succ_eq_append_getElem hj, List.reverse_append]; rfl

theorem FileAt.stored {w w' : World} {fb : Nat} {bv sv bv' : Value} {p : PF} {b : List Nat} (h : FileAt w fb bv sv p) (ht : Turn (fun k => bv.ownBlock = some k) w w') (hr : w'.ownsRow 0 5 1 bv' b.length (u8s b)) (hbl : bv'.ownBlock ≠ some fb) :
    FileAt (w'.setCell ⟨fb, 0, none⟩ bv') fb bv' sv ⟨b, p.steps⟩ := by
  obtain ⟨a1, a2, a3⟩ := h.apart
  have hc : w'.heap[fb]? = some (.cells #[bv, sv] 94) := (ht.block fb h.lt (fun e => a1 e)).trans h.cells
  have hlt : fb < w'.heap.size := (Array.getElem?_eq_some_iff.1 hc).1
  have hoth : ∀ k, k ≠ fb → (w'.setCell ⟨fb, 0, none⟩ bv').heap[k]? = w'.heap[k]? := fun k hk => Below.heap_setCell _ _ _ _ hk
  refine ⟨?_, ?_, ?_⟩
  · rw [heap_setCell_same w' fb 0 #[bv, sv] 94 bv' hc]
    rfl
  · exact row_of_block hr fun k hk => hoth k (fun e => hbl (e ▸ hk))
  · refine row_of_block (row_turn h.steps ht fun k hk e => a3 k e hk) fun k hk => hoth k (fun e => a2 (e ▸ hk))

theorem good_len {B : Nat} {l : List PStep} {b : List Nat} (h : Good B l b) : b.length ≤ B := h.len

set_option maxRecDepth 100000 in
set_option maxHeartbeats 4000000 in
theorem undo_any (p : PF) (fb : Nat) (bv sv : Value) (w : World) (h : FileAt w fb bv sv p) (n B : Nat) (hn : n ≤ unitsOf p.steps) (hb : unitsOf p.steps < 1099511627776) (hl : p.steps.length < 1099511627776) (hB : B < 1099511627776) (hG : p.Good B) :
    Calls Tryz.prog 84 #[.pointer (some ⟨fb, 0, none⟩), .int .i64 (n : Int)] w fun e w' =>
    e = .returned (.bool (undoR p.steps.reverse p.bytes n).2) ∧ ∃ bv', FileAt w' fb bv' sv ⟨(undoR p.steps.reverse p.bytes n).1, p.steps⟩ ∧ Turn (fun k => k = fb ∨ bv.ownBlock = some k) w w' ∧ (bv'.ownBlock = bv.ownBlock ∨ ∃ k, bv'.ownBlock = some k ∧ w.heap.size ≤ k) := by
  obtain ⟨bs, l⟩ := p
  unfold PF.Good at hG
  simp only at hn hb hl hG ⊢
  obtain ⟨N, hN⟩ : ∃ N, l.length = N := ⟨_, rfl⟩
  have HN := Lib.hid hN
  obtain ⟨R, hR⟩ : ∃ R, undoR l.reverse bs n = R := ⟨_, rfl⟩
  rw [hR]
  have HR := Lib.hid hR
  have HF := Lib.hid h
  have HB := Lib.hid hb
  have HG := Lib.hid hG
  have HBB := Lib.hid hB
  have c1 := h.cell1
  have hrow := h.steps
  simp only at hrow
  obtain ⟨ad, cap, hsv, _⟩ := row_len hrow
  rw [hN] at hsv hl
  subst hsv
  have Hrow := Lib.hid hrow
  have Hn := Lib.hid hn
  clear hR h hb hrow hn hN hG hB
  go_enter Tryz.func84, Tryz.ntmps84
  go_wp2_with fail
  go_loopg [1, 4, 5] N (fun r u c i wr => ∃ (j m : Nat) (b : List Nat) (x : Bool) (bw : Value), j = r ∧ j ≤ N ∧ u = .int .i64 (m : Int) ∧ c = .bool x ∧ i = .int .i64 ((j : Int) - 1) ∧ Hid (m ≤ unitsOf (l.take j)) ∧
    Hid (R = ((undoR (l.take j).reverse b m).1, x || (undoR (l.take j).reverse b m).2)) ∧ Hid (m = 0 ∨ Good B (l.take j).reverse b) ∧ Hid (b.length ≤ B) ∧ FileAt wr fb bw (.slice ad N cap) ⟨b, l⟩ ∧ Turn (fun k => k = fb ∨ bv.ownBlock = some k) w wr ∧ (bw.ownBlock = bv.ownBlock ∨ ∃ k, bw.ownBlock = some k ∧ w.heap.size ≤ k))
  case atStart =>
    refine ⟨N, n, bs, false, bv, rfl, Nat.le_refl _, rfl, rfl, by go_num, ?_, ?_, ?_, ?_, HF.out, Turn.refl _ _, .inl rfl⟩
    · show _ ≤ _
      rw [← HN.out, List.take_length]; exact Hn.out
    · show _ = _
      rw [← HN.out, List.take_length, HR.out, Bool.false_or]
    · right
      rw [← HN.out, List.take_length]; exact HG.out
    · exact HG.out.len
  case round => 
    obtain ⟨j, m, b, x, bw, rfl, hj, rfl, rfl, rfl, Hm, HRR, Hq, Hbl, hF, hT, hO⟩ := hrel
    by_cases hm0 : m = 0
    · subst hm0
      have e1 := HRR.out
      rw [undoR_zero, Bool.or_false] at e1
      subst e1
      go_wp2
      go_ret
      exact ⟨rfl, bw, hF, hT, hO⟩
    · have hmi : (0 : Int) < (m : Int) := by omega
      have hjp : 0 < j := by
        rcases Nat.eq_zero_or_pos j with h | h
        · subst h; have := Hm.out; simp [unitsOf] at this; omega
        · exact h
      obtain ⟨j, rfl⟩ : ∃ j', j = j' + 1 := ⟨j - 1, by omega⟩
      have hjl : j < l.length := by rw [HN.out]; omega
      have hidx : ((j + 1 : Nat) : Int) - 1 = (j : Int) := by omega
      rw [hidx]
      have c0w := hF.cell0
      have c1w := hF.cell1
      have f0 := hF.fro 0
      obtain ⟨g, cap', hsv, hg, hcs⟩ := step_at hF.steps (by intro e; simp only at e; rw [e] at hjl; simp at hjl)
      injection hsv with hsv1 hsv2 hsv3
      subst hsv1
      subst hsv3
      have d0 := hcs j hjl 0 (by omega)
      have d1 := hcs j hjl 1 (by omega)
      have d2 := hcs j hjl 2 (by omega)
      clear hcs hsv2
      have hrev := take_reverse l j hjl
      have hun := unitsOf_take_succ l j hjl
      simp only at d0 d1 d2
      obtain ⟨s, hs⟩ : ∃ s, l[j]'hjl = s := ⟨_, rfl⟩
      rw [hs] at d0 d1 d2 hrev hun
      have hgood := Hq.out.resolve_left hm0
      rw [hrev] at hgood
      have Hgood := Lib.hid hgood
      have Hrev := Lib.hid hrev
      have Hun := Lib.hid hun
      obtain ⟨ba, bc, rfl, hbc⟩ := row_len hF.bytes
      have HF2 := Lib.hid hF
      have HT2 := Lib.hid hT
      have hbl : b.length < 1099511627776 := by have := Hbl.out; have := HBB.out; omega
      have hmb : m < 1099511627776 := by have h1 := Hm.out; have h2 := units_le_take l (j + 1); have := HB.out; omega
      clear hF hT hrev hs hgood hun
      cases s with
      | cut t =>
        simp only [encStep, Nat.add_zero, List.getElem?_cons_zero, List.getElem?_cons_succ] at d0 d1 d2
        go_wp2_with fail
        obtain ⟨wc, hwc⟩ : ∃ wc, wc = wr.alloc (Obj.cells #[.bool true, .string (strN t), .int .i64 0] 135) := ⟨_, rfl⟩
        rw [← hwc]
        have hBel : Below wr.heap.size wr wc.drew := by rw [hwc]; exact (below_alloc _ _).drew
        have hFw : FileAt wc.drew fb (.slice ba b.length bc) (.slice (some ⟨g, 0, none⟩) N cap) ⟨b, l⟩ := HF2.out.turn (Turn.of_below (S := fun _ => False) hBel) (fun _ _ h => h)
        have htl : t.length < 1099511627776 := by have := Hgood.out.2.len; rw [List.length_append] at this; have := HBB.out; omega
        obtain ⟨v', w', hrun, hown', hgrow, hloc⟩ := Row.append_text wc.drew 91 (.slice ba b.length bc) b b.length rfl hFw.bytes (strN t) (by rw [strN_size]; omega)
        obtain ⟨ba', bc', rfl, _⟩ := row_len hown'
        obtain ⟨n1, n2, n3⟩ := hFw.apart
        have e0 : w'.cell? ⟨fb, 0, none⟩ = some (.slice ba b.length bc) := by
          rw [World.cell?_of_block (w := wc.drew) (hgrow.block fb hFw.lt (fun e => n1 e.symm))]
          exact hFw.cell0
        have g0 : w'.frozen? ⟨fb, 0, none⟩ = false := by
          rw [World.frozen?_of_block (w := wc.drew) (hgrow.block fb hFw.lt (fun e => n1 e.symm))]
          exact hFw.fro 0
        have b0 : wc.cell? ⟨fb, 0, none⟩ = some (.slice ba b.length bc) := hFw.cell0
        have b1 : wc.cell? ⟨wr.heap.size, 1, none⟩ = some (.string (strN t)) := by rw [hwc]; exact World.cell?_alloc_new _ _ _ _
        have HRun := Lib.hid hrun
        have HRow := Lib.hid hown'
        have HGr := Lib.hid hgrow
        have HFw := Lib.hid hFw
        have HWC := Lib.hid hwc
        have HBel := Lib.hid hBel
        clear hrun hown' hgrow hFw hwc hBel n1 n2 n3
        go_region_law (refine Row.step_by rfl (.tmp 31) (.tmp 33) _ rfl _ _ rfl rfl HRun.out ?_)
        all_goals
          go_wp2
          go_roundg j
          case measure => omega
          case rel =>
            have hnt : nums (strN t) = t := strN_nums t (fun y hy => Hgood.out.2.ok.2 y (List.mem_append_right _ hy))
            have hS := HFw.out.stored (Turn.of_grown HGr.out (fun k hk => hk)) (bv' := .slice ba' (b.length + (strN t).size) bc') (b := b ++ t) (by
              have := HRow.out
              rw [hnt] at this
              rw [List.length_append, ← strN_size t]
              exact this) (fun e => by
              rcases hloc with h | h
              · rw [h] at e; exact HFw.out.apart.1 e
              · rw [h] at e; injection e with e; have := HFw.out.lt; omega)
            refine ⟨j, m - 1, b ++ t, true, _, rfl, by omega, by go_num, rfl, by go_num, ?_, ?_, ?_, ?_, hS, ?_, ?_⟩
            · show _ ≤ _
              have h1 := Hm.out; rw [Hun.out] at h1; simp only [PStep.units] at h1; omega
            · show _ = _
              rw [HRR.out, Hrev.out, undoR, if_neg hm0]
              simp
            · exact .inr Hgood.out.2
            · exact Hgood.out.2.len
            · have hsz : wr.heap.size ≤ wc.drew.heap.size := HBel.out.size
              refine HT2.out.trans (S' := fun k => k = fb ∨ (Value.slice ba b.length bc).ownBlock = some k) ?_ ?_
              · refine Turn.trans (S' := fun k => k = fb ∨ (Value.slice ba b.length bc).ownBlock = some k) (Turn.of_below HBel.out) ?_ (fun _ _ h => h)
                exact (Turn.of_grown HGr.out (fun k hk => .inr hk)).set _ _ (fun _ => .inl rfl)
              · intro i hi hh
                rcases hh with hh | hh
                · exact .inl hh
                · rcases hO with h | ⟨k, h1, h2⟩
                  · rw [h] at hh; exact .inr hh
                  · rw [h1] at hh; injection hh with hh; omega
            · rcases hloc with h | h
              · rw [h]; exact hO
              · exact .inr ⟨_, h, by have := HT2.out.size; have := HBel.out.size; omega⟩
      | add k =>
        simp only [encStep, Nat.add_zero, List.getElem?_cons_zero, List.getElem?_cons_succ] at d0 d1 d2
        have hk1 : k ≤ b.length := Hgood.out.2.1
        obtain ⟨q, hq⟩ : ∃ q, min m k = q := ⟨_, rfl⟩
        have Hq2 := Lib.hid hq
        rcases Nat.lt_or_ge k m with hkm | hkm
        · have hqk : q = k := by omega
          subst hqk
          clear hq
          have hkmi : (q : Int) < (m : Int) := by omega
          obtain ⟨k, hkq⟩ : ∃ k, k = q := ⟨q, rfl⟩
          go_wp2_with fail
          obtain ⟨wc, hwc⟩ : ∃ wc, wc = wr.alloc (Obj.cells #[.bool false, .string ⟨#[]⟩, .int .i64 (q : Int)] 135) := ⟨_, rfl⟩
          rw [← hwc]
          have hBel : Below wr.heap.size wr wc.drew := by rw [hwc]; exact (below_alloc _ _).drew
          have hFw : FileAt wc.drew fb (.slice ba b.length bc) (.slice (some ⟨g, 0, none⟩) N cap) ⟨b, l⟩ := HF2.out.turn (Turn.of_below (S := fun _ => False) hBel) (fun _ _ h => h)
          have b0 : wc.drew.cell? ⟨fb, 0, none⟩ = some (.slice ba b.length bc) := hFw.cell0
          have g0 : wc.drew.frozen? ⟨fb, 0, none⟩ = false := hFw.fro 0
          have hr := row_take hFw.bytes (b.length - q) (by omega)
          have i1 : IntKind.i64.wrap ((b.length : Int) - (q : Int)) = ((b.length - q : Nat) : Int) := by rw [IntWalk.i64_in _ (by omega)]; omega
          have hBel2 := Lib.hid hBel
          have HFw := Lib.hid hFw
          have Hr := Lib.hid hr
          have HWC := Lib.hid hwc
          clear hBel hFw hr hwc
          have hba : ba = none ∧ b.length = 0 ∧ bc = 0 ∨ ∃ g2, ba = some ⟨g2, 0, none⟩ := by
            rcases HFw.out.bytes.2 with ⟨h1, h2⟩ | ⟨g2, _, _, h1, _⟩
            · injection h1 with h1 h3 h4
              exact .inl ⟨h1, h2, h4⟩
            · injection h1 with h1
              exact .inr ⟨g2, h1⟩
          have j1 : (0 : Int) ≤ ((b.length - q : Nat) : Int) := by omega
          have j2 : ((b.length - q : Nat) : Int) ≤ (bc : Int) := by omega
          have j3 : (((b.length - q : Nat) : Int)).toNat = b.length - q := by omega
          rcases hba with ⟨rfl, hb0, rfl⟩ | ⟨g2, rfl⟩
          · go_region
            all_goals
              try go_wp2
              go_roundg j
              case measure => omega
              case rel =>
                have hS := HFw.out.stored (Turn.refl _ _) (bv' := .slice _ (b.length - q) _) (b := b.take (b.length - q)) (by
                  have h1 := Hr.out
                  have e1 : (b.take (b.length - q)).length = b.length - q := by rw [List.length_take]; omega
                  rw [e1, show u8s (b.take (b.length - q)) = (u8s b).take (b.length - q) from by simp [u8s, List.map_take]]
                  exact h1) HFw.out.apart.1
                rw [show Value.slice none (b.length - q) 0 = Value.slice none 0 0 from by rw [hb0, Nat.zero_sub]] at hS
                have hsz : wr.heap.size ≤ wc.drew.heap.size := hBel2.out.size
                refine ⟨j, m - q, b.take (b.length - q), x, _, rfl, by omega, by go_num, rfl, by go_num, ?_, ?_, ?_, ?_, hS, ?_, hO⟩
                · show _ ≤ _
                  have h1 := Hm.out; rw [Hun.out] at h1; simp only [PStep.units] at h1; omega
                · show _ = _
                  rw [HRR.out, Hrev.out, undoR, if_neg hm0, Hq2.out]
                · exact .inr Hgood.out.2.2
                · have := Hbl.out; show _ ≤ _; rw [List.length_take]; omega
                · exact HT2.out.trans (S' := fun k => k = fb) ((Turn.of_below hBel2.out).set _ _ (fun _ => rfl)) (fun i _ hh => .inl hh)
          · go_region
            all_goals
              try go_wp2
              go_roundg j
              case measure => omega
              case rel =>
                have hS := HFw.out.stored (Turn.refl _ _) (bv' := .slice _ (b.length - q) _) (b := b.take (b.length - q)) (by
                  have h1 := Hr.out
                  have e1 : (b.take (b.length - q)).length = b.length - q := by rw [List.length_take]; omega
                  rw [e1, show u8s (b.take (b.length - q)) = (u8s b).take (b.length - q) from by simp [u8s, List.map_take]]
                  exact h1) HFw.out.apart.1
                have hsz : wr.heap.size ≤ wc.drew.heap.size := hBel2.out.size
                refine ⟨j, m - q, b.take (b.length - q), x, _, rfl, by omega, by go_num, rfl, by go_num, ?_, ?_, ?_, ?_, hS, ?_, hO⟩
                · show _ ≤ _
                  have h1 := Hm.out; rw [Hun.out] at h1; simp only [PStep.units] at h1; omega
                · show _ = _
                  rw [HRR.out, Hrev.out, undoR, if_neg hm0, Hq2.out]
                · exact .inr Hgood.out.2.2
                · have := Hbl.out; show _ ≤ _; rw [List.length_take]; omega
                · exact HT2.out.trans (S' := fun k => k = fb) ((Turn.of_below hBel2.out).set _ _ (fun _ => rfl)) (fun i _ hh => .inl hh)
        · obtain rfl : q = m := by omega
          clear hq
          have hkmi : ¬ (k : Int) < (q : Int) := by omega
          go_wp2_with fail
          obtain ⟨wc, hwc⟩ : ∃ wc, wc = wr.alloc (Obj.cells #[.bool false, .string ⟨#[]⟩, .int .i64 (k : Int)] 135) := ⟨_, rfl⟩
          rw [← hwc]
          have hBel : Below wr.heap.size wr wc.drew := by rw [hwc]; exact (below_alloc _ _).drew
          have hFw : FileAt wc.drew fb (.slice ba b.length bc) (.slice (some ⟨g, 0, none⟩) N cap) ⟨b, l⟩ := HF2.out.turn (Turn.of_below (S := fun _ => False) hBel) (fun _ _ h => h)
          have b0 : wc.drew.cell? ⟨fb, 0, none⟩ = some (.slice ba b.length bc) := hFw.cell0
          have g0 : wc.drew.frozen? ⟨fb, 0, none⟩ = false := hFw.fro 0
          have hr := row_take hFw.bytes (b.length - q) (by omega)
          have i1 : IntKind.i64.wrap ((b.length : Int) - (q : Int)) = ((b.length - q : Nat) : Int) := by rw [IntWalk.i64_in _ (by omega)]; omega
          have hBel2 := Lib.hid hBel
          have HFw := Lib.hid hFw
          have Hr := Lib.hid hr
          have HWC := Lib.hid hwc
          clear hBel hFw hr hwc
          have hba : ba = none ∧ b.length = 0 ∧ bc = 0 ∨ ∃ g2, ba = some ⟨g2, 0, none⟩ := by
            rcases HFw.out.bytes.2 with ⟨h1, h2⟩ | ⟨g2, _, _, h1, _⟩
            · injection h1 with h1 h3 h4
              exact .inl ⟨h1, h2, h4⟩
            · injection h1 with h1
              exact .inr ⟨g2, h1⟩
          have j1 : (0 : Int) ≤ ((b.length - q : Nat) : Int) := by omega
          have j2 : ((b.length - q : Nat) : Int) ≤ (bc : Int) := by omega
          have j3 : (((b.length - q : Nat) : Int)).toNat = b.length - q := by omega
          rcases hba with ⟨rfl, hb0, rfl⟩ | ⟨g2, rfl⟩
          · exfalso; omega
          · go_region
            all_goals
              try go_wp2
              go_roundg j
              case measure => omega
              case rel =>
                have hS := HFw.out.stored (Turn.refl _ _) (bv' := .slice _ (b.length - q) _) (b := b.take (b.length - q)) (by
                  have h1 := Hr.out
                  have e1 : (b.take (b.length - q)).length = b.length - q := by rw [List.length_take]; omega
                  rw [e1, show u8s (b.take (b.length - q)) = (u8s b).take (b.length - q) from by simp [u8s, List.map_take]]
                  exact h1) HFw.out.apart.1
                have hsz : wr.heap.size ≤ wc.drew.heap.size := hBel2.out.size
                refine ⟨j, q - q, b.take (b.length - q), x, _, rfl, by omega, by go_num, rfl, by go_num, ?_, ?_, ?_, ?_, hS, ?_, hO⟩
                · show _ ≤ _
                  have h1 := Hm.out; rw [Hun.out] at h1; simp only [PStep.units] at h1; omega
                · show _ = _
                  rw [HRR.out, Hrev.out, undoR, if_neg hm0, Hq2.out]
                · exact .inl (by omega)
                · have := Hbl.out; show _ ≤ _; rw [List.length_take]; omega
                · exact HT2.out.trans (S' := fun k => k = fb) ((Turn.of_below hBel2.out).set _ _ (fun _ => rfl)) (fun i _ hh => .inl hh)

end Go.Proofs.YtmmlefbokplnnaaGreatDoor.Disk

namespace Go.Proofs.YtmmlefbokplnnaaGreatDoor.Disk
open Go.RowKit Go Go.Proofs.YtmmlefbokplnnaaGreatDoor.Base

theorem FileAt.noSteps {w : World} {fb : Nat} {bv sv : Value} {p : PF} (h : FileAt w fb bv sv p) : FileAt (w.setCell ⟨fb, 1, none⟩ (.slice none 0 0)) fb bv (.slice none 0 0) ⟨p.bytes, []⟩ := by
  obtain ⟨a1, a2, a3⟩ := h.apart
  refine ⟨?_, ?_, ?_⟩
  · rw [heap_setCell_same w fb 1 #[bv, sv] 94 _ h.cells]; rfl
  · exact row_of_block h.bytes fun k hk => Below.heap_setCell _ _ _ _ (fun e => a1 (by rw [hk]; exact congrArg some e))
  · exact World.ownsRow_nil _ _ _ _

theorem keep_bytes {w : World} {fb : Nat} {bv sv bv' : Value} {b : List Nat} {l : List PStep} {b' : List Nat} {w' : World} {m : Nat} (h : FileAt w fb bv sv ⟨b, l⟩) (hr : w'.ownsRow 0 5 1 bv' (b.length + m) (u8s b')) (hl : b'.length = b.length + m) (hg : w.grownBy w' bv.ownBlock) (hloc : bv'.ownBlock = bv.ownBlock ∨ bv'.ownBlock = some w.heap.size) :
    FileAt (w'.setCell ⟨fb, 0, none⟩ bv') fb bv' sv ⟨b', l⟩ ∧ w'.cell? ⟨fb, 0, none⟩ = some bv ∧ w'.frozen? ⟨fb, 0, none⟩ = false ∧ w'.frozen? ⟨fb, 1, none⟩ = false ∧ (w'.setCell ⟨fb, 0, none⟩ bv').cell? ⟨fb, 1, none⟩ = some sv := by
  have n1 := h.apart.1
  have hb : w'.heap[fb]? = w.heap[fb]? := hg.block fb h.lt (fun e => n1 e.symm)
  have hS := h.stored (Turn.of_grown hg (fun k hk => hk)) (bv' := bv') (b := b') (by rw [hl]; exact hr) (fun e => by
    rcases hloc with h1 | h1
    · rw [h1] at e; exact n1 e
    · rw [h1] at e; injection e with e; have := h.lt; omega)
  refine ⟨hS, ?_, ?_, ?_, hS.cell1⟩
  · rw [World.cell?_of_block (w := w) hb]; exact h.cell0
  · rw [World.frozen?_of_block (w := w) hb]; exact h.fro 0
  · rw [World.frozen?_of_block (w := w) hb]; exact h.fro 1

set_option maxRecDepth 100000 in
set_option maxHeartbeats 4000000 in
theorem keep_any (p : PF) (fb : Nat) (bv sv : Value) (w : World) (h : FileAt w fb bv sv p) (left B : Nat) (zeros : Bool) (hn : left ≤ unitsOf p.steps) (hb : unitsOf p.steps < 1099511627776) (hl : p.steps.length < 1099511627776) (hB : B < 1099511627776) (hG : p.Good B) :
    Calls Tryz.prog 49 #[.pointer (some ⟨fb, 0, none⟩), .int .i64 (left : Int), .bool zeros] w fun e w' =>
    e = .returned (.tuple #[]) ∧ ∃ bv', FileAt w' fb bv' (.slice none 0 0) (p.keep left zeros) ∧ Turn (fun k => k = fb ∨ bv.ownBlock = some k) w w' ∧ (bv'.ownBlock = bv.ownBlock ∨ ∃ k, bv'.ownBlock = some k ∧ w.heap.size ≤ k) := by
  obtain ⟨U, hU⟩ : ∃ U, unitsOf p.steps = U := ⟨_, rfl⟩
  have hu := units_any p fb bv sv w h (by omega) (by omega)
  have hd : ∀ W, Below w.heap.size w W → Calls Tryz.prog 84 #[.pointer (some ⟨fb, 0, none⟩), .int .i64 ((U - left : Nat) : Int)] W _ := fun W hW =>
    undo_any p fb bv sv W (h.turn (Turn.of_below (S := fun _ => False) hW) (fun _ _ h => h)) (U - left) B (by omega) hb hl hB hG
  have hgu := Good.undo hG (U - left) (by rw [unitsOf_reverse]; omega)
  rw [hU] at hu hn hb
  have hk : p.keep left zeros = ⟨if zeros && !(undoR p.steps.reverse p.bytes (U - left)).2 then (undoR p.steps.reverse p.bytes (U - left)).1 ++ List.replicate (U - left) 0 else (undoR p.steps.reverse p.bytes (U - left)).1, []⟩ := by
    unfold PF.keep; rw [hU]
  rw [hk]
  obtain ⟨R, hR⟩ : ∃ R, undoR p.steps.reverse p.bytes (U - left) = R := ⟨_, rfl⟩
  simp only [hR] at hd hgu ⊢
  obtain ⟨b2, x⟩ := R
  simp only at hd hgu ⊢
  have hb2 : b2.length ≤ B := hgu.1.1
  have hD := Lib.hid hd
  have hGU := Lib.hid hgu
  have Hh := Lib.hid h
  have hi : IntKind.i64.wrap ((U : Int) - (left : Int)) = ((U - left : Nat) : Int) := by rw [IntWalk.i64_in _ (by omega)]; omega
  generalize hL : U - left = L at *
  have hLl : L < 1099511627776 := by omega
  clear hd hgu h hk hR hU hG
  go_enter Tryz.func49, Tryz.ntmps49
  by_cases hz : zeros = true ∧ x = false
  · obtain ⟨rfl, rfl⟩ := hz
    go_wp2_with (first
      | (go_at_call 50; refine hu.mono ?_; rintro e w1 ⟨rfl, hb1⟩)
      | (go_at_call 84; ((with_reducible refine (hD.out _ hb1).mono ?_); rintro e w2 ⟨rfl, bv2, hF2, hT2, hO2⟩; have k0 := hF2.cell0; obtain ⟨bv3, w3, hrun3, hrow3, hg3, hloc3⟩ := Row.append_zeros w2 91 bv2 b2 b2.length rfl hF2.bytes L (by omega); obtain ⟨q0, q1, q2, q3, q4⟩ := keep_bytes hF2 hrow3 (by simp) hg3 hloc3; obtain ⟨ad3, cp3, rfl, _⟩ := row_len hrow3; have q5 := q0.fro 1; have HRun3 := Lib.hid hrun3; have HQ0 := Lib.hid q0; have HF2 := Lib.hid hF2; have HT2 := Lib.hid hT2; have HO2 := Lib.hid hO2; have HG3 := Lib.hid hg3; clear hrun3 q0 hrow3 hF2 hT2 hO2 hg3))
      | (at_builtin; refine Row.append_by rfl (.tmp 24) (.tmp 25) _ rfl _ _ rfl rfl HRun3.out ?_))
    go_end0
    have hN := HQ0.out.noSteps
    refine ⟨rfl, _, hN, ?_, ?_⟩
    · have hsz := hb1.size
      refine Turn.trans (S' := fun k => k = fb ∨ bv.ownBlock = some k) (Turn.of_below hb1) ?_ (fun _ _ h => h)
      refine HT2.out.trans (S' := fun k => k = fb ∨ bv2.ownBlock = some k) (((Turn.of_grown HG3.out (fun k hk => .inr hk)).set _ _ (fun _ => .inl rfl)).set _ _ (fun _ => .inl rfl)) ?_
      intro i hi hh
      rcases hh with hh | hh
      · exact .inl hh
      · rcases HO2.out with h1 | ⟨k, h1, h2⟩
        · rw [h1] at hh; exact .inr hh
        · rw [h1] at hh; injection hh with hh; omega
    · have hsz := hb1.size
      have hsz2 := HT2.out.size
      rcases hloc3 with h3 | h3
      · rw [h3]
        rcases HO2.out with h1 | ⟨k, h1, h2⟩
        · exact .inl h1
        · exact .inr ⟨k, h1, by omega⟩
      · exact .inr ⟨_, h3, by omega⟩
  · have hbytes : (if zeros && !x then b2 ++ List.replicate L 0 else b2) = b2 := by
      rw [if_neg]
      cases zeros <;> cases x <;> simp at hz ⊢
    rw [hbytes]
    have Hbytes := Lib.hid hbytes
    clear hbytes
    cases zeros
    all_goals cases x
    all_goals first
      | (exfalso; exact hz ⟨rfl, rfl⟩)
      | (go_wp2_with (first
          | (go_at_call 50; refine hu.mono ?_; rintro e w1 ⟨rfl, hb1⟩)
          | (go_at_call 84; ((with_reducible refine (hD.out _ hb1).mono ?_); rintro e w2 ⟨rfl, bv2, hF2, hT2, hO2⟩; have k1 := hF2.cell1; have f1 := hF2.fro 1; have HF2 := Lib.hid hF2; have HT2 := Lib.hid hT2; have HO2 := Lib.hid hO2; clear hF2 hT2 hO2)))
         go_end0
         have hN := HF2.out.noSteps
         have hsz := hb1.size
         refine ⟨rfl, _, hN, ?_, ?_⟩
         · refine Turn.trans (S' := fun k => k = fb ∨ bv.ownBlock = some k) (Turn.of_below hb1) ?_ (fun _ _ h => h)
           exact HT2.out.set _ _ (fun _ => .inl rfl)
         · rcases HO2.out with h1 | ⟨k, h1, h2⟩
           · exact .inl h1
           · exact .inr ⟨k, h1, by omega⟩)

end Go.Proofs.YtmmlefbokplnnaaGreatDoor.Disk
