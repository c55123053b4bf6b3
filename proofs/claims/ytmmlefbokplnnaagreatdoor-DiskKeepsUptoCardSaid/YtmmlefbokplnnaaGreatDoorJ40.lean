/-
  The texts NWalk3, NWalk4, joined. Own text.
-/
import Derived.Test.YtmmlefbokplnnaaGreatDoorJ39
set_option linter.unusedVariables false
set_option linter.unusedSimpArgs false
namespace Go.Proofs.YtmmlefbokplnnaaGreatDoor.Disk
open Go.RowKit Go Go.Proofs.YtmmlefbokplnnaaGreatDoor.Base Go.Proofs.YtmmlefbokplnnaaGreatDoor.Map

/-- a file of which nothing can be lost -/
def FreshB (f : FB) : Prop := f.safe = f.now ∧ f.steps = []
theorem keep_fresh (f : FB) (w : Int) (z : Bool) : FreshB (f.keep w z) := ⟨rfl, rfl⟩
theorem keep_same {f : FB} (h : FreshB f) (w : Int) (z : Bool) : f.keep w z = f := by
  obtain ⟨now, safe, steps⟩ := f
  obtain ⟨h1, h2⟩ := h
  simp only at h1 h2
  subst h1 h2
  unfold FB.keep
  simp [changeUnits, replay]
theorem keepAll_fresh (fs : List FB) (nums : List Nat) (data : List Int) (z : Bool) : ∀ k j, j < k → FreshB ((keepAll fs nums data z k).getD (nums.getD j 0) ⟨[], [], []⟩)
  | 0, j, h => absurd h (Nat.not_lt_zero _)
  | k + 1, j, h => by
    unfold keepAll
    simp only
    by_cases he : nums.getD k 0 = nums.getD j 0
    · rw [← he]
      rcases Nat.lt_or_ge (nums.getD k 0) (keepAll fs nums data z k).length with hl | hl
      · rw [List.getD_eq_getElem?_getD, List.getElem?_set_self hl]
        exact keep_fresh _ _ _
      · rw [List.getD_eq_getElem?_getD, List.getElem?_eq_none (by rw [List.length_set]; exact hl)]
        exact ⟨rfl, rfl⟩
    · rw [List.getD_eq_getElem?_getD, List.getElem?_set_ne he, ← List.getD_eq_getElem?_getD]
      refine keepAll_fresh fs nums data z k j ?_
      rcases Nat.lt_or_ge j k with hk | hk
      · exact hk
      · have : j = k := by omega
        subst this
        exact absurd rfl he
theorem keepAll_same (fs : List FB) (nums : List Nat) (data : List Int) (z : Bool) (n : Nat) (h : ∀ j, j < n → FreshB (fs.getD (nums.getD j 0) ⟨[], [], []⟩)) : ∀ k, k ≤ n → keepAll fs nums data z k = fs
  | 0, _ => rfl
  | k + 1, hk => by
    unfold keepAll
    simp only
    rw [keepAll_same fs nums data z n h k (by omega), keep_same (h k (by omega))]
    generalize nums.getD k 0 = i
    rcases Nat.lt_or_ge i fs.length with hl | hl
    · rw [List.getD_eq_getElem?_getD, List.getElem?_eq_getElem hl]
      exact List.set_getElem_self hl
    · exact List.set_eq_of_length_le hl

/-- a second Restart finds nothing to lose -/
theorem restart_again (m : M) (a b : Int) (d e : List Int) (y z : Bool) : (m.restart a d y).restart b e z = m.restart a d y := by
  have hf : keepAll (m.restart a d y).files (numsF (m.restart a d y).things) e z (numsF (m.restart a d y).things).length = (m.restart a d y).files :=
    keepAll_same _ _ _ _ _ (fun j hj => keepAll_fresh _ _ _ _ _ j hj) _ (Nat.le_refl _)
  obtain ⟨m1, hm1⟩ : ∃ m1, m.restart a d y = m1 := ⟨_, rfl⟩
  have hs : m1.steps = [] := by rw [← hm1]; rfl
  have ht : m1.safe = m1.things := by rw [← hm1]; rfl
  have ho : m1.off = false := by rw [← hm1]; rfl
  have ha : m1.await = 0 := by rw [← hm1]; rfl
  rw [hm1] at hf ⊢
  have hl : appliedAll m1.safe (m1.steps.take (share b m1.steps.length)) = m1.things := by rw [hs, List.take_nil, ht]; rfl
  unfold M.restart
  rw [hl, hf]
  obtain ⟨th, sf, st, fl, cp, of, aw⟩ := m1
  simp only at hs ht ho ha
  subst hs ht ho ha
  rfl

set_option maxRecDepth 100000 in
set_option maxHeartbeats 4000000 in
theorem again_walk (w : World) (E : Nat → Addr) (he : EnvD w E) (h8 : 8 ≤ w.heap.size) (hE : ∀ c, 1 ≤ c → c ≤ 7 → (E c).block < w.heap.size) (ao : Option Addr) (cap : Nat) (ops : List OpD) (hO : OpsD w ao ops) (hcost : costs ops ≤ 1048576) (names : Int) (hn : inI names) (da : Option Addr) (dc : Nat) (data : List Int) (hd : IntsAt w da data) (hdl : data.length ≤ 1048576) (hdi : ∀ x ∈ data, inI x) :
    Calls Tryz.prog 5 #[.slice ao ops.length cap, .int .i64 names, .slice da data.length dc] w fun r w' => r = .returned (.bool true) ∧ Below w.heap.size w w' := by
  have hlen := costs_length ops
  obtain ⟨N, hN⟩ : ∃ N, ops.length = N := ⟨_, rfl⟩
  rw [hN] at hlen ⊢
  have hNl : N ≤ 1048576 := by omega
  have HN := Lib.hid hN
  have HE := Lib.hid he
  have H8 := Lib.hid h8
  have HEB := Lib.hid hE
  have HO := Lib.hid hO
  have HC := Lib.hid hcost
  have HNM := Lib.hid hn
  have HDA := Lib.hid hd
  have HDL := Lib.hid hdl
  have HDI := Lib.hid hdi
  obtain ⟨LD0, hLD0⟩ : ∃ LD0, data.length = LD0 := ⟨_, rfl⟩
  rw [hLD0]
  have HLD := Lib.hid hLD0
  have HD := Lib.hid (new_any 1000 w)
  have HR := Lib.hid (fun W => New_ref 1000 W)
  clear hN he h8 hE hO hcost hlen hn hd hdl hdi hLD0
  go_enter Tryz.func5, Tryz.ntmps5
  go_wp2_with (first
    | (go_at_call 8; ((with_reducible refine HD.out.mono ?_); rintro r w1 ⟨rfl, hd1, hb1⟩; have hs1 : w.heap.size < w1.heap.size := hd1.lt; have HD1 := Lib.hid hd1; have HB1 := Lib.hid hb1; clear hd1 hb1))
    | (go_at_call 9; ((with_reducible refine (HR.out w1).mono ?_); rintro r w2 ⟨rfl, hr2, hb2⟩; have HP2 := Lib.hid (pair_new (D := w.heap.size) (R := w1.heap.size) 1000 HE.out H8.out HEB.out (Nat.le_refl _) (Nat.le_of_lt hs1) (HB1.out.trans (hb2.mono HB1.out.size)) (HD1.out.below hb2) hr2); have HB2 := Lib.hid (HB1.out.trans (hb2.mono HB1.out.size)); clear hr2 hb2))
    | (go_at_call 10; ((with_reducible refine (wakes_any w2 E HP2.out.env.env HP2.out.w8).mono ?_); rintro r w3 ⟨rfl, hb3⟩; obtain ⟨hp3, _, _, hb30⟩ := HP2.out.below hb3; have HP3 := Lib.hid hp3; have HB3 := Lib.hid (HB2.out.trans hb30); clear hb3 hp3 hb30)))
  have HREL := Lib.hid (rel_new 1000)
  clear HD HR HD1 HB1 HP2 HB2
  go_loopg [21] N (fun r i wr => ∃ (j : Nat) (G : DiskG) (q : RefG) (m : M) (S : Nat), Hid (j + r = N) ∧ j ≤ N ∧ i = .int .i64 (j : Int) ∧ Hid (Pair w.heap.size E w.heap.size w1.heap.size 0 G q m wr) ∧ Hid (Rel G m S) ∧ Hid (S ≤ costs (ops.take j)) ∧ Hid (Below w.heap.size w wr))
  case atStart => exact ⟨0, _, _, _, 0, Nat.zero_add _, Nat.zero_le _, rfl, HP3.out, HREL.out, Nat.zero_le _, HB3.out⟩
  case round =>
    clear HP3 HB3 HREL
    obtain ⟨j, G, q, m, S, hE, hj, rfl, HP, HRL, HS, HB⟩ := hrel
    by_cases hlt : j < N
    · have hjl : j < ops.length := by rw [HN.out]; exact hlt
      obtain ⟨b, off, rfl, d0, d1, d2, d3, d4, d5, d6, d7, hat⟩ := op_cells HO.out HB.out j hjl
      have e1 := costs_take ops j hjl
      have e2 := costs_part ops (j + 1)
      have e3 := HC.out
      have e4 := HS.out
      obtain ⟨o, ho⟩ : ∃ o, ops[j]'hjl = o := ⟨_, rfl⟩
      rw [ho] at d0 d1 d2 d3 d4 d5 d6 d7 hat e1
      obtain ⟨W2, hW2⟩ : ∃ W2, W2 = wr.alloc (.cells o.cells 31) := ⟨_, rfl⟩
      have hcc : ∀ i, W2.cell? ⟨wr.heap.size, i, none⟩ = o.cells[i]? := fun i => by rw [hW2]; exact cell_of_row _ _ _ _ _ _ (heap_alloc_new wr _)
      obtain ⟨hp2, _, _, hb2⟩ := HP.out.below (w' := W2) (by rw [hW2]; exact below_alloc _ _)
      have hst := lawStep_any hp2 HRL.out (by omega) o (hat.low hb2)
      have HS2 : Hid (S + 2 + o.text.length ≤ costs (ops.take (j + 1))) := by show _ ≤ _; omega
      have hS2 : S + 2 + o.text.length ≤ 1048576 := by omega
      obtain ⟨S2, hSS⟩ : ∃ S2, S + 2 + o.text.length = S2 := ⟨_, rfl⟩
      rw [hSS] at hst HS2 hS2
      have HB2 := Lib.hid (HB.out.trans hb2)
      obtain ⟨m2, hm2⟩ : ∃ m2, m.stepD o = m2 := ⟨_, rfl⟩
      rw [hm2] at hst
      clear e1 e2 e3 e4 hp2 hb2 hat ho hSS hm2
      obtain ⟨k, A, B, K1, K2, l, pa, pc, data, da, dc, y⟩ := o
      simp only [OpD.val, opW, OpD.cells] at hst hcc hW2 d0 d1 d2 d3 d4 d5 d6 d7
      obtain ⟨LN, hLN⟩ : ∃ LN, l.length = LN := ⟨_, rfl⟩
      obtain ⟨DN, hDN⟩ : ∃ DN, data.length = DN := ⟨_, rfl⟩
      rw [hLN, hDN] at hst hcc hW2
      rw [hLN] at d5
      rw [hDN] at d6
      have HST := Lib.hid hst
      have f0 : W2.cell? ⟨wr.heap.size, 0, none⟩ = some (.int .i64 k) := hcc 0
      have f1 : W2.cell? ⟨wr.heap.size, 1, none⟩ = some (.string A) := hcc 1
      have f2 : W2.cell? ⟨wr.heap.size, 2, none⟩ = some (.string B) := hcc 2
      have f3 : W2.cell? ⟨wr.heap.size, 3, none⟩ = some (.int .i64 K1) := hcc 3
      have f4 : W2.cell? ⟨wr.heap.size, 4, none⟩ = some (.int .i64 K2) := hcc 4
      have f5 : W2.cell? ⟨wr.heap.size, 5, none⟩ = some (.slice pa LN pc) := hcc 5
      have f6 : W2.cell? ⟨wr.heap.size, 6, none⟩ = some (.slice da DN dc) := hcc 6
      have f7 : W2.cell? ⟨wr.heap.size, 7, none⟩ = some (.bool y) := hcc 7
      have hjI : (j : Int) < (N : Int) := by omega
      clear hst hcc hLN hDN
      go_upto_region 7 with fail
      rw [← hW2]
      clear hW2
      go_wp2_with (go_at_call 11; ((with_reducible refine HST.out.mono ?_); rintro r w4 ⟨rfl, G4, q4, hp4, hr4, hb4⟩))
      go_roundg (N - (j + 1))
      case measure => have := hE.out; omega
      case rel => exact ⟨j + 1, G4, q4, m2, S2, by show _ = _; have := hE.out; omega, by omega, by go_num, hp4, hr4, HS2.out, HB2.out.trans hb4⟩
    · obtain rfl : j = N := by omega
      have hSl : S ≤ 1048576 := by have := HS.out; have := HC.out; have := costs_part ops j; omega
      have hdb : 0 < data.length → ∀ b off, da = some ⟨b, off, none⟩ → b < w.heap.size := fun h0 b off e => by
        obtain ⟨b', off', h1, h2, _⟩ := HDA.out 0 h0
        rw [e] at h1
        injection h1 with h1
        injection h1 with h1
        omega
      obtain ⟨a1, c1, wc, hrun, hrow, hbw⟩ := copied_ints (ca := dc) (HDA.out.low hdb HB.out) HDL.out
      obtain ⟨hp1, _, _, hb1⟩ := HP.out.below hbw
      have hD := d_restart hp1 HRL.out hSl names HNM.out data _ hrow HDL.out HDI.out true
      have hR := fun (G : DiskG) (W : World) (hp : Pair w.heap.size E w.heap.size w1.heap.size 0 G q m W) (hb : Below w.heap.size w W) => r_restart hp HRL.out hSl names HNM.out data da dc (HDA.out.low hdb hb) hdb HDL.out HDI.out true
      have hag := restart_again m names data.length data [5, 1, 0] true false
      have hD2 := fun (G : DiskG) (q : RefG) (mm : M) (W : World) (hp : Pair w.heap.size E w.heap.size w1.heap.size 0 G q mm W) (hr : Rel G (m.restart names data true) S) (vd : Value) (hrow : W.ownsRow 0 3 1 vd 3 (ints [5, 1, 0])) => d_restart hp hr hSl (data.length : Int) ⟨by omega, by have := HDL.out; omega⟩ [5, 1, 0] vd hrow (by decide) (fun x hx => by simp only [List.mem_cons, List.not_mem_nil, or_false] at hx; unfold inI; omega) false
      rw [hag] at hD2
      obtain ⟨m1, hm1⟩ : ∃ m1, m.restart names data true = m1 := ⟨_, rfl⟩
      obtain ⟨LD, hLD⟩ : ∃ LD, data.length = LD := ⟨_, rfl⟩
      rw [hm1] at hD hR hD2
      obtain rfl : LD = LD0 := hLD.symm.trans HLD.out
      rw [hLD] at hrun hD hR hD2
      have HB1 := Lib.hid (HB.out.trans hb1)
      have HRun := Lib.hid hrun
      have HD := Lib.hid hD
      have HR := Lib.hid hR
      have HD2 := Lib.hid hD2
      have hLDl : LD ≤ 1048576 := by rw [← hLD]; exact HDL.out
      clear hrun hD hR hD2 hrow hbw hp1 hb1 hdb hag hm1 hLD hlt hE
      go_wp2_with (first
        | (at_builtin; refine Row.append_by rfl (.const (.slice none 0 0)) (.tmp 33) _ rfl _ _ rfl rfl HRun.out ?_)
        | (go_at_call 13; ((with_reducible refine HD.out.mono ?_); rintro r w4 ⟨rfl, G4, hp4, hr4, hk4, hb4⟩; have HP4 := Lib.hid hp4; have HB4 := Lib.hid (HB1.out.trans hb4); have HR4 := Lib.hid hr4; clear hp4 hb4 hr4))
        | (go_at_call 14; ((with_reducible refine (HR.out _ _ HP4.out HB4.out).mono ?_); rintro r w5 ⟨rfl, q5, hp5, hb5⟩; have HP5 := Lib.hid hp5; have HB5 := Lib.hid (HB4.out.trans hb5); clear hp5 hb5))
        | (go_at_call 13; ((with_reducible refine (HD2.out G4 q5 m1 _ (HP6.out.below (below_alloc w6 _)).1 HR4.out _ (World.ownsRow_lit w6 #[.int .i64 5, .int .i64 1, .int .i64 0] 3 (Nat.zero_le _) (by decide) rfl : World.ownsRow _ 0 3 1 _ 3 (ints [5, 1, 0]))).mono ?_); rintro r w7 ⟨rfl, G7, hp7, hr7, hk7, hb7⟩; have HP7 := Lib.hid hp7; have HB7 := Lib.hid ((HB6.out.trans (HP6.out.below (below_alloc w6 _)).2.2.2).trans hb7); have HR7 := Lib.hid hr7; clear hp7 hb7 hr7))
        | (go_at_call 12; ((with_reducible refine (alike_on HP7.out HR7.out hSl).mono ?_); rintro r w8 ⟨rfl, hp8, hb8⟩; have HB9 := Lib.hid (HB7.out.trans hb8); clear hp8 hb8))
        | (go_at_call 12; ((with_reducible refine (alike_on HP5.out HR4.out hSl).mono ?_); rintro r w6 ⟨rfl, hp6, hb6⟩; have HP6 := Lib.hid hp6; have HB6 := Lib.hid (HB5.out.trans hb6); clear hp6 hb6)))
      go_ret
      exact ⟨rfl, HB9.out⟩

end Go.Proofs.YtmmlefbokplnnaaGreatDoor.Disk

namespace Go.Proofs.YtmmlefbokplnnaaGreatDoor.Disk
open Go.RowKit Go Go.Proofs.YtmmlefbokplnnaaGreatDoor.Base Go.Proofs.YtmmlefbokplnnaaGreatDoor.Map

/-- a row that may be written -/
theorem row_store {w : World} {e : TypeId} {v : Value} {n : Nat} {l : List Ent} (h : w.ownsRow 0 e 3 v n (l.flatMap entC)) (hn : l.length = n) :
    ∃ ao cap, v = .slice ao n cap ∧ ∀ j, j < n → ∃ g, ao = some ⟨g, 0, none⟩ ∧ v.ownBlock = some g ∧ (∀ c, c < 3 → ∃ x, w.cell? ⟨g, j * 3 + c, none⟩ = some x) ∧ ∀ i, w.frozen? ⟨g, i, none⟩ = false := by
  obtain ⟨ao, cap, hv, _, hr⟩ := row_open (f := entC) (k := 3) (fun _ => rfl) h hn
  refine ⟨ao, cap, hv, fun j hj => ?_⟩
  obtain ⟨g, hg, hgl, hc⟩ := hr j (by omega)
  refine ⟨g, hg, by rw [hv, hg]; rfl, fun c hc3 => ?_, fun i => ?_⟩
  · rw [hc c hc3]
    have : c = 0 ∨ c = 1 ∨ c = 2 := by omega
    rcases this with rfl | rfl | rfl
    · exact ⟨_, rfl⟩
    · exact ⟨_, rfl⟩
    · exact ⟨_, rfl⟩
  · rcases h.2 with ⟨h1, h0⟩ | ⟨g', cap', cur, h1, _, h2, _⟩
    · rw [hv, hg] at h1; cases h1
    · rw [hv, hg] at h1
      injection h1 with h1 _ _
      injection h1 with h1
      injection h1 with h1
      subst h1
      simp [World.frozen?, h2]

set_option maxRecDepth 100000 in
set_option maxHeartbeats 4000000 in
theorem keeps_walk (w : World) (E : Nat → Addr) (he : EnvD w E) (h8 : 8 ≤ w.heap.size) (hE : ∀ c, 1 ≤ c → c ≤ 7 → (E c).block < w.heap.size) (ao : Option Addr) (cap : Nat) (ops : List OpD) (hO : OpsD w ao ops) (hcost : costs ops ≤ 1048576) :
    Calls Tryz.prog 7 #[.slice ao ops.length cap] w fun r w' => r = .returned (.bool true) ∧ Below w.heap.size w w' := by
  have hlen := costs_length ops
  obtain ⟨N, hN⟩ : ∃ N, ops.length = N := ⟨_, rfl⟩
  rw [hN] at hlen ⊢
  have hNl : N ≤ 1048576 := by omega
  have HN := Lib.hid hN
  have HE := Lib.hid he
  have H8 := Lib.hid h8
  have HEB := Lib.hid hE
  have HO := Lib.hid hO
  have HC := Lib.hid hcost
  have HD := Lib.hid (new_any 1000 w)
  have HR := Lib.hid (fun W => New_ref 1000 W)
  clear hN he h8 hE hO hcost hlen
  go_enter Tryz.func7, Tryz.ntmps7
  go_wp2_with (first
    | (go_at_call 8; ((with_reducible refine HD.out.mono ?_); rintro r w1 ⟨rfl, hd1, hb1⟩; have hs1 : w.heap.size < w1.heap.size := hd1.lt; have HD1 := Lib.hid hd1; have HB1 := Lib.hid hb1; clear hd1 hb1))
    | (go_at_call 9; ((with_reducible refine (HR.out w1).mono ?_); rintro r w2 ⟨rfl, hr2, hb2⟩; have HP2 := Lib.hid (pair_new (D := w.heap.size) (R := w1.heap.size) 1000 HE.out H8.out HEB.out (Nat.le_refl _) (Nat.le_of_lt hs1) (HB1.out.trans (hb2.mono HB1.out.size)) (HD1.out.below hb2) hr2); have HB2 := Lib.hid (HB1.out.trans (hb2.mono HB1.out.size)); clear hr2 hb2))
    | (go_at_call 10; ((with_reducible refine (wakes_any w2 E HP2.out.env.env HP2.out.w8).mono ?_); rintro r w3 ⟨rfl, hb3⟩; obtain ⟨hp3, _, _, hb30⟩ := HP2.out.below hb3; have HP3 := Lib.hid hp3; have HB3 := Lib.hid (HB2.out.trans hb30); clear hb3 hp3 hb30)))
  have HREL := Lib.hid (rel_new 1000)
  clear HD HR HD1 HB1 HP2 HB2
  go_loopg [25] N (fun r i wr => ∃ (j : Nat) (G : DiskG) (q : RefG) (m : M) (S : Nat), Hid (j + r = N) ∧ j ≤ N ∧ i = .int .i64 (j : Int) ∧ Hid (Pair w.heap.size E w.heap.size w1.heap.size 0 G q m wr) ∧ Hid (Rel G m S) ∧ Hid (S ≤ costs (ops.take j)) ∧ Hid (Below w.heap.size w wr))
  case atStart => exact ⟨0, _, _, _, 0, Nat.zero_add _, Nat.zero_le _, rfl, HP3.out, HREL.out, Nat.zero_le _, HB3.out⟩
  case round =>
    clear HP3 HB3 HREL
    obtain ⟨j, G, q, m, S, hE, hj, rfl, HP, HRL, HS, HB⟩ := hrel
    by_cases hlt : j < N
    · have hjl : j < ops.length := by rw [HN.out]; exact hlt
      obtain ⟨b, off, rfl, d0, d1, d2, d3, d4, d5, d6, d7, hat⟩ := op_cells HO.out HB.out j hjl
      have e1 := costs_take ops j hjl
      have e2 := costs_part ops (j + 1)
      have e3 := HC.out
      have e4 := HS.out
      obtain ⟨o, ho⟩ : ∃ o, ops[j]'hjl = o := ⟨_, rfl⟩
      rw [ho] at d0 d1 d2 d3 d4 d5 d6 d7 hat e1
      obtain ⟨W2, hW2⟩ : ∃ W2, W2 = wr.alloc (.cells o.cells 31) := ⟨_, rfl⟩
      have hcc : ∀ i, W2.cell? ⟨wr.heap.size, i, none⟩ = o.cells[i]? := fun i => by rw [hW2]; exact cell_of_row _ _ _ _ _ _ (heap_alloc_new wr _)
      obtain ⟨hp2, _, _, hb2⟩ := HP.out.below (w' := W2) (by rw [hW2]; exact below_alloc _ _)
      have hst := lawStep_any hp2 HRL.out (by omega) o (hat.low hb2)
      have HS2 : Hid (S + 2 + o.text.length ≤ costs (ops.take (j + 1))) := by show _ ≤ _; omega
      have hS2 : S + 2 + o.text.length ≤ 1048576 := by omega
      obtain ⟨S2, hSS⟩ : ∃ S2, S + 2 + o.text.length = S2 := ⟨_, rfl⟩
      rw [hSS] at hst HS2 hS2
      have HB2 := Lib.hid (HB.out.trans hb2)
      obtain ⟨m2, hm2⟩ : ∃ m2, m.stepD o = m2 := ⟨_, rfl⟩
      rw [hm2] at hst
      clear e1 e2 e3 e4 hp2 hb2 hat ho hSS hm2
      obtain ⟨k, A, B, K1, K2, l, pa, pc, data, da, dc, y⟩ := o
      simp only [OpD.val, opW, OpD.cells] at hst hcc hW2 d0 d1 d2 d3 d4 d5 d6 d7
      obtain ⟨LN, hLN⟩ : ∃ LN, l.length = LN := ⟨_, rfl⟩
      obtain ⟨DN, hDN⟩ : ∃ DN, data.length = DN := ⟨_, rfl⟩
      rw [hLN, hDN] at hst hcc hW2
      rw [hLN] at d5
      rw [hDN] at d6
      have HST := Lib.hid hst
      have f0 : W2.cell? ⟨wr.heap.size, 0, none⟩ = some (.int .i64 k) := hcc 0
      have f1 : W2.cell? ⟨wr.heap.size, 1, none⟩ = some (.string A) := hcc 1
      have f2 : W2.cell? ⟨wr.heap.size, 2, none⟩ = some (.string B) := hcc 2
      have f3 : W2.cell? ⟨wr.heap.size, 3, none⟩ = some (.int .i64 K1) := hcc 3
      have f4 : W2.cell? ⟨wr.heap.size, 4, none⟩ = some (.int .i64 K2) := hcc 4
      have f5 : W2.cell? ⟨wr.heap.size, 5, none⟩ = some (.slice pa LN pc) := hcc 5
      have f6 : W2.cell? ⟨wr.heap.size, 6, none⟩ = some (.slice da DN dc) := hcc 6
      have f7 : W2.cell? ⟨wr.heap.size, 7, none⟩ = some (.bool y) := hcc 7
      have hjI : (j : Int) < (N : Int) := by omega
      clear hst hcc hLN hDN
      go_upto_region 7 with fail
      rw [← hW2]
      clear hW2
      go_wp2_with (go_at_call 11; ((with_reducible refine HST.out.mono ?_); rintro r w4 ⟨rfl, G4, q4, hp4, hr4, hb4⟩))
      go_roundg (N - (j + 1))
      case measure => have := hE.out; omega
      case rel => exact ⟨j + 1, G4, q4, m2, S2, by show _ = _; have := hE.out; omega, by omega, by go_num, hp4, hr4, HS2.out, HB2.out.trans hb4⟩
    · obtain rfl : j = N := by omega
      have hSl : S ≤ 1048576 := by have := HS.out; have := HC.out; have := costs_part ops j; omega
      have hle := listCode_le m ⟨#[]⟩
      have hm := HRL.out.lim hSl
      have hn := HRL.out.numsIn
      have hD := fun (W : World) (hp : Pair w.heap.size E w.heap.size w1.heap.size 0 G q m W) => d_list hp HRL.out hSl ⟨#[]⟩ (by decide)
      have hR := fun (W : World) (hp : Pair w.heap.size E w.heap.size w1.heap.size 0 G q m W) => List_ref hp.ref hm hn ⟨#[]⟩ (by decide)
      have hLs := fun (W : World) (hp : Pair w.heap.size E w.heap.size w1.heap.size 0 G q m W) => listed_on hp HRL.out hSl ⟨#[]⟩ (by decide)
      obtain ⟨L, hL⟩ : ∃ L, seen m ⟨#[]⟩ = L := ⟨_, rfl⟩
      have hLl : L.length ≤ S := by
        rw [← hL]; unfold seen
        split
        · rw [insL_length, ents_eq]
          exact Nat.le_trans (List.length_filterMap_le _ _) HRL.out.nt
        · simp
      rw [hL] at hD
      have hL2 : (if m.listCode ⟨#[]⟩ = 0 then insL (ents m ⟨#[]⟩) else []) = L := hL
      rw [hL2] at hR
      obtain ⟨M, hM⟩ : ∃ M, L.length = M := ⟨_, rfl⟩
      rw [hM] at hD hLl
      rw [entG_cells] at hD
      have HD := Lib.hid hD
      have HR := Lib.hid hR
      have HLs := Lib.hid hLs
      have HM := Lib.hid hM
      have hMl : M ≤ 1048576 := by omega
      clear hD hR hLs hM hL hL2 hle hm hn hlt hE
      have HP0 := Lib.hid HP.out
      go_wp2_with (first
        | (go_at_call 17; ((with_reducible refine (HD.out _ HP0.out).mono ?_); rintro r w3 ⟨va, ea, rfl, _, hb3, hrow3, hfr3⟩; obtain ⟨hp3, _, _, _⟩ := HP0.out.below hb3; have HP3 := Lib.hid hp3; have HB3 := Lib.hid hb3; have HA3 := Lib.hid hrow3; have HF3 := Lib.hid hfr3; clear hp3 hb3 hrow3 hfr3 HP0))
        | (go_at_call 17; ((with_reducible refine (HD.out _ HP3.out).mono ?_); rintro r w4 ⟨vb, eb, rfl, _, hb4, hrow4, hfr4⟩; have HB4 := Lib.hid hb4; have HA4 := Lib.hid (row_turn (S := fun _ => False) HA3.out (Turn.of_below hb4) (fun _ _ => id)); have HB4r := Lib.hid hrow4; have HF4 := Lib.hid hfr4; obtain ⟨xa, xc, rfl, hst⟩ := row_store HA4.out HM.out; have HST := Lib.hid hst; obtain ⟨ya, yc, rfl, _⟩ := row_len hrow4; clear hb4 hrow4 hfr4 hst)))
      have HAB : Hid (∀ k, (Value.slice ya M yc).ownBlock = some k → ¬ (Value.slice xa M xc).ownBlock = some k) := fun k h1 h2 => by
        have k1 := (row_kind HA3.out h2).lt
        have k2 := HF4.out k h1
        omega
      have HB04 := Lib.hid (HB3.out.trans (HB4.out.mono HB3.out.size))
      go_loopg [47] M (fun r i wx => ∃ (j : Nat), Hid (j + r = M) ∧ j ≤ M ∧ i = .int .i64 (j : Int) ∧ Hid (Turn (fun k => (Value.slice xa M xc).ownBlock = some k) w4 wx) ∧ Hid (∀ g, xa = some ⟨g, 0, none⟩ → (∀ i, j * 3 ≤ i → wx.cell? ⟨g, i, none⟩ = w4.cell? ⟨g, i, none⟩) ∧ ∀ i, wx.frozen? ⟨g, i, none⟩ = w4.frozen? ⟨g, i, none⟩))
      case atStart => exact ⟨0, Nat.zero_add _, Nat.zero_le _, rfl, Turn.refl _ _, fun g _ => ⟨fun _ _ => rfl, fun _ => rfl⟩⟩
      case round =>
        obtain ⟨j, hE, hj, rfl, HT, HI⟩ := hrel
        by_cases hlt : j < M
        · obtain ⟨g, rfl, hgo, hcs, hfz⟩ := HST.out j hlt
          obtain ⟨hcc, hff⟩ := HI.out g rfl
          obtain ⟨v0, q0⟩ := hcs 0 (by omega)
          obtain ⟨v1, q1⟩ := hcs 1 (by omega)
          obtain ⟨v2, q2⟩ := hcs 2 (by omega)
          have d0 : wr.cell? ⟨g, j * 3, none⟩ = some v0 := (hcc _ (by omega)).trans q0
          have d1 : wr.cell? ⟨g, j * 3 + 1, none⟩ = some v1 := (hcc _ (by omega)).trans q1
          have d2 : wr.cell? ⟨g, j * 3 + 2, none⟩ = some v2 := (hcc _ (by omega)).trans q2
          have hfro : ∀ i, wr.frozen? ⟨g, i, none⟩ = false := fun i => (hff i).trans (hfz i)
          have hfr : ∀ (W : World) (o : Nat) (v : Value) (i : Nat), (W.setCell ⟨g, o, none⟩ v).frozen? ⟨g, i, none⟩ = W.frozen? ⟨g, i, none⟩ := fun W o v i => frozen_set W g o v _
          have hc1 : ∀ (W : World) (v : Value), (W.setCell ⟨g, j * 3, none⟩ v).cell? ⟨g, j * 3 + 1, none⟩ = W.cell? ⟨g, j * 3 + 1, none⟩ := fun W v => cell_set_ne W g _ _ v (by omega)
          have hc2 : ∀ (W : World) (v v' : Value), ((W.setCell ⟨g, j * 3, none⟩ v).setCell ⟨g, j * 3 + 1, none⟩ v').cell? ⟨g, j * 3 + 2, none⟩ = W.cell? ⟨g, j * 3 + 2, none⟩ := fun W v v' => by rw [cell_set_ne _ g _ _ v' (by omega), cell_set_ne W g _ _ v (by omega)]
          have HCC := Lib.hid hcc
          have HFF := Lib.hid hff
          have hjI : (j : Int) < (M : Int) := by omega
          clear hcc hff hfz hcs q0 q1 q2
          go_wp2_with fail
          go_roundg (M - (j + 1))
          case measure => have := hE.out; omega
          case rel => exact ⟨j + 1, by show _ = _; have := hE.out; omega, by omega, by go_num, ((HT.out.set _ _ (fun _ => hgo)).set _ _ (fun _ => hgo)).set _ _ (fun _ => hgo), fun g' hg' => by
            injection hg' with hg'
            injection hg' with hg'
            subst hg'
            refine ⟨fun i hi => ?_, fun i => ?_⟩
            · rw [cell_set_ne _ g _ _ _ (by omega), cell_set_ne _ g _ _ _ (by omega), cell_set_ne _ g _ _ _ (by omega)]
              exact HCC.out i (by omega)
            · rw [hfr, hfr, hfr]
              exact HFF.out i⟩
        · obtain rfl : j = M := by omega
          have hb4 := HT.out.below (B := _) HB04.out.size (fun i hi e => by have := HF3.out i e; omega)
          have hbw := HB04.out.trans hb4
          obtain ⟨hp5, _, _, _⟩ := HP.out.below hbw
          have hrB := row_turn HB4r.out HT.out HAB.out
          have HP5 := Lib.hid hp5
          have HBW := Lib.hid hbw
          have HRB := Lib.hid hrB
          clear hb4 hbw hp5 hrB hlt hE HI HT HST
          go_wp2_with (go_at_call 18; ((with_reducible refine (HR.out _ HP5.out).mono ?_); rintro r w6 ⟨v2, rfl, ho⟩; obtain ⟨hp6, _, _, _⟩ := HP5.out.below ho.below; have HRB6 := Lib.hid (row_turn (S := fun _ => False) HRB.out (Turn.of_below ho.below) (fun _ _ => id)); obtain ⟨wa, wc, rfl⟩ := ho.shape; have hrowW := ho.row; rw [HM.out] at hrowW ⊢; have HRW := Lib.hid hrowW; have HBB6 := Lib.hid (HBW.out.trans (ho.below.mono HBW.out.size)); have HP6 := Lib.hid hp6; clear hrowW hp6 ho))
          obtain ⟨la, lc, hlv, _, hlr⟩ := row_open (f := entC) (k := 3) (n := j) (fun _ => rfl) HRB6.out HM.out
          obtain ⟨za, zc, hxv, _, hxr⟩ := row_open (f := entC) (k := 3) (n := j) (fun _ => rfl) HRW.out HM.out
          injection hlv with e1 e2 e3
          injection hxv with f1 f2 f3
          subst e1 f1
          clear e2 e3 f2 f3
          have HLR := Lib.hid hlr
          have HXR := Lib.hid hxr
          clear hlr hxr HRB6 HRW HRB
          go_loopg [67] j (fun r i wx => ∃ (t : Nat), Hid (t + r = j) ∧ t ≤ j ∧ i = .int .i64 (t : Int) ∧ ∃ n, wx = w6.drewN n)
          case atStart => exact ⟨0, Nat.zero_add _, Nat.zero_le _, rfl, 0, rfl⟩
          case round =>
            obtain ⟨t, hE, ht, rfl, nd, rfl⟩ := hrel
            by_cases hlt : t < j
            · have hjl : t < L.length := by rw [HM.out]; exact hlt
              obtain ⟨g, rfl, hg, hc⟩ := HLR.out t hjl
              obtain ⟨g2, rfl, hg2, hc2⟩ := HXR.out t hjl
              have x0 : w6.cell? ⟨g, t * 3, none⟩ = some (.string (L[t]'hjl).name) := hc 0 (by omega)
              have x1 : w6.cell? ⟨g, t * 3 + 1, none⟩ = some (.bool (L[t]'hjl).dir) := hc 1 (by omega)
              have x2 : w6.cell? ⟨g, t * 3 + 2, none⟩ = some (.int .i64 ((L[t]'hjl).size : Int)) := hc 2 (by omega)
              have y0 : w6.cell? ⟨g2, t * 3, none⟩ = some (.string (L[t]'hjl).name) := hc2 0 (by omega)
              have y1 : w6.cell? ⟨g2, t * 3 + 1, none⟩ = some (.bool (L[t]'hjl).dir) := hc2 1 (by omega)
              have y2 : w6.cell? ⟨g2, t * 3 + 2, none⟩ = some (.int .i64 ((L[t]'hjl).size : Int)) := hc2 2 (by omega)
              generalize (L[t]'hjl).name = nm at x0 y0
              generalize (L[t]'hjl).dir = dr at x1 y1
              generalize (L[t]'hjl).size = sz at x2 y2
              have hteq : (nm.toList == nm.toList) = true := by simp
              have hjI : (t : Int) < (j : Int) := by omega
              clear hc hc2
              go_wp2_with fail
              go_quiet (fail)
              go_wp2
              go_roundg (j - (t + 1))
              case measure => have := hE.out; omega
              case rel => exact ⟨t + 1, by show _ = _; have := hE.out; omega, by omega, by go_num, _, rfl⟩
            · obtain rfl : j = t := by omega
              obtain ⟨hp7, _, _, hb7⟩ := HP6.out.below ((Below.refl _ _).drewN nd)
              clear hlt
              go_wp2_with (go_at_call 19; ((with_reducible refine (HLs.out _ hp7).mono ?_); rintro r w8 ⟨rfl, hp8, _, hb8⟩; obtain ⟨_, _, _, hb80⟩ := hp7.below hb8))
              go_ret
              exact ⟨rfl, ((HB.out.trans (HBB6.out.mono HP.out.size)).trans hb7).trans hb80⟩

end Go.Proofs.YtmmlefbokplnnaaGreatDoor.Disk
