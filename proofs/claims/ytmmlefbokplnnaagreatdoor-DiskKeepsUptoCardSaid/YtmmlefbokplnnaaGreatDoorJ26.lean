/-
  The texts RNames, RCalls, RCalls2, RFile, RSet, RSync, RRead, joined. Own text.
-/
import Derived.Test.YtmmlefbokplnnaaGreatDoorJ25
import Derived.Deep.RegionWith
import Derived.Laws.OwnMore
set_option linter.unusedVariables false
set_option linter.unusedSimpArgs false
namespace Go.Proofs.YtmmlefbokplnnaaGreatDoor.Disk
open Go.RowKit Go Go.Proofs.YtmmlefbokplnnaaGreatDoor.Base Go.Proofs.YtmmlefbokplnnaaGreatDoor.Map

/-- what a call leaves of the document's disk -/
structure RefDone (w : World) (R : Nat) (q : RefG) (w' : World) (q' : RefG) (m' : M) : Prop where
  at' : RefAt w' R q' m'
  turn : Turn (q.own R) w w'
  own : ∀ k, q'.own R k → q.own R k ∨ w.heap.size ≤ k

section
variable {w w' w2 : World} {R : Nat} {q q' q2 : RefG} {m m' : M}

theorem RefDone.same (h : RefAt w R q m) (hb : Below w.heap.size w w') : RefDone w R q w' q m := ⟨h.below hb, Turn.of_below hb, fun _ hk => .inl hk⟩

theorem RefDone.trans (h : RefDone w R q w' q' m) (h2 : RefDone w' R q' w2 q2 m') : RefDone w R q w2 q2 m' :=
  ⟨h2.at', h.turn.trans h2.turn (fun k hk hh => by
      rcases h.own k hh with h3 | h3
      · exact h3
      · exact absurd hk (by omega)), fun k hk => by
    rcases h2.own k hk with h3 | h3
    · exact h.own k h3
    · have := h.turn.size; exact .inr (by omega)⟩

theorem RefDone.below (hb : Below w.heap.size w w') (h : RefDone w' R q w2 q2 m') : RefDone w R q w2 q2 m' :=
  ⟨h.at', (Turn.of_below (S := q.own R) hb).trans h.turn (fun _ _ hh => hh), fun k hk => by
    rcases h.own k hk with h3 | h3
    · exact .inl h3
    · have := hb.size; exact .inr (by omega)⟩

set_option maxRecDepth 100000 in
set_option maxHeartbeats 1000000 in
theorem names_ref (h : RefAt w R q m) (ha : m.await < 9223372036854775808) (hl : m.things.length < 1000000000000) (hn : m.steps.length < 1099511627776) (hs : ∀ x ∈ m.things, x.path.size < 4611686018427387904)
    (s : NStep) (hk : s.kind = 1 ∨ s.kind = 2 ∨ s.kind = 3 ∨ s.kind = 4) (hsa : s.a.size < 4611686018427387904) (hsb : s.b.size < 4611686018427387904) :
    Calls Tryz.prog 69 #[.pointer (some ⟨R, 0, none⟩), .agg #[.int .i64 (s.kind : Int), .string s.a, .string s.b, .int .i64 (s.num : Int)]] w fun r w' => r = .returned (.int .i64 (tickV m : Int)) ∧ ∃ q', RefDone w R q w' q' (m.names s).2 ∧ q'.fv = q.fv ∧ q'.cs = q.cs := by
  have hbel : Below w.heap.size w (w.alloc (.cells #[.int .i64 (s.kind : Int), .string s.a, .string s.b, .int .i64 (s.num : Int)] 97)) := below_alloc _ _
  have hbx : (w.alloc (.cells #[.int .i64 (s.kind : Int), .string s.a, .string s.b, .int .i64 (s.num : Int)] 97)).heap[w.heap.size]? = some (.cells #[.int .i64 (s.kind : Int), .string s.a, .string s.b, .int .i64 (s.num : Int)] 97) := heap_alloc_new _ _
  have h0 := h.below hbel
  have ht := tick_ref h0 ha
  have hRl := h.lt
  have H := Lib.hid h
  have HB := Lib.hid hbel
  have HX := Lib.hid hbx
  have HT := Lib.hid ht
  unfold M.names
  clear h h0 hbel hbx ht
  by_cases h1 : m.await = 1
  · have e1 : tickV m = 1 := by unfold tickV; rw [if_pos h1]
    rw [if_pos h1, e1]
    rw [e1] at HT
    clear h1 e1
    go_enter Tryz.func69, Tryz.ntmps69
    go_wp2_with (go_at_call 73; ((with_reducible refine HT.out.mono ?_); rintro r w1 ⟨rfl, hr1, ht1⟩))
    go_ret
    exact ⟨rfl, q, RefDone.below HB.out ⟨hr1, ht1.mono fun _ _ hk => .inl hk, fun _ hk => .inl hk⟩, rfl, rfl⟩
  · have e1 : tickV m = 0 := by unfold tickV; rw [if_neg h1]
    rw [if_neg h1, e1]
    rw [e1] at HT
    clear h1 e1
    go_enter Tryz.func69, Tryz.ntmps69
    go_wp2_with (go_at_call 73; ((with_reducible refine HT.out.mono ?_); rintro r w1 ⟨rfl, hr1, ht1⟩))
    have hR1 : w1.drew.heap[w.heap.size]? = some (.cells #[.int .i64 (s.kind : Int), .string s.a, .string s.b, .int .i64 (s.num : Int)] 97) :=
      (ht1.block w.heap.size (by simp) (by omega)).trans HX.out
    have c0 : w1.drew.cell? ⟨R, 0, none⟩ = some q.tv := hr1.cell 0
    have b0 : w1.drew.cell? ⟨w.heap.size, 0, none⟩ = some (.int .i64 (s.kind : Int)) := by rw [cell_of_row _ _ 0 _ _ _ hR1]; rfl
    have b1 : w1.drew.cell? ⟨w.heap.size, 1, none⟩ = some (.string s.a) := by rw [cell_of_row _ _ 1 _ _ _ hR1]; rfl
    have b2 : w1.drew.cell? ⟨w.heap.size, 2, none⟩ = some (.string s.b) := by rw [cell_of_row _ _ 2 _ _ _ hR1]; rfl
    have b3 : w1.drew.cell? ⟨w.heap.size, 3, none⟩ = some (.int .i64 (s.num : Int)) := by rw [cell_of_row _ _ 3 _ _ _ hR1]; rfl
    have hd1 : RefAt w1.drew R q m.ticked := hr1.below ((Below.refl _ _).drewN 1)
    have hap := apply_ref (w := w1.drew) (v := q.tv) (l := m.things) (by have := hd1.things; rw [M.ticked_things] at this; exact this) hl s hk hs hsa hsb
    have HAP := Lib.hid hap
    have HD1 := Lib.hid hd1
    have HT1 := Lib.hid ht1
    have HR1 := Lib.hid hR1
    have hlx := (Array.getElem?_eq_some_iff.1 hR1).1
    clear hap hd1 hr1 ht1 hR1
    go_region_with (go_at_call 52; ((refine HAP.out.mono ?_); rintro r w2 ⟨v2, rfl, ho2⟩; obtain ⟨va, vc, rfl⟩ := ho2.shape; have ha2 : RefAt w2 R q m.ticked := HD1.out.below ho2.below; have k0 : w2.cell? ⟨R, 0, none⟩ = some q.tv := ha2.cell 0; have kf := ha2.fro 0))
    all_goals
      go_wp2_with fail
      obtain ⟨w3, hw3⟩ : ∃ w3, w2.setCell ⟨R, 0, none⟩ (.slice va (applied m.things s).length vc) = w3 := ⟨_, rfl⟩
      rw [hw3]
      have h3 : RefAt w3 R { q with tv := (.slice va (applied m.things s).length vc) } { m.ticked with things := applied m.things s } := by rw [← hw3]; exact RefAt.put ha2.block (ha2.parts.newThings ho2.row) 0 (.slice va (applied m.things s).length vc) rfl
      have hs1 := HT1.out.size
      have hx3 : w3.drew.heap[w.heap.size]? = some (.cells #[.int .i64 (s.kind : Int), .string s.a, .string s.b, .int .i64 (s.num : Int)] 97) := by
        rw [← hw3]
        show (w2.setCell ⟨R, 0, none⟩ (.slice va (applied m.things s).length vc)).heap[w.heap.size]? = _
        rw [Below.heap_setCell _ _ _ _ (by show w.heap.size ≠ R; omega), ho2.below.block _ hlx]
        exact HR1.out
      obtain ⟨sa, sc, hnv, _⟩ := row_open (f := nstepC) (k := 4) (fun _ => rfl) h3.steps rfl
      simp only at hnv
      rw [M.ticked_steps] at hnv
      have d2 : w3.drew.cell? ⟨R, 2, none⟩ = some (.slice sa m.steps.length sc) := by rw [← hnv]; exact h3.cell 2
      have d0 : w3.drew.cell? ⟨w.heap.size, 0, none⟩ = some (.int .i64 (s.kind : Int)) := by rw [cell_of_row _ _ 0 _ _ _ hx3]; rfl
      have d1 : w3.drew.cell? ⟨w.heap.size, 1, none⟩ = some (.string s.a) := by rw [cell_of_row _ _ 1 _ _ _ hx3]; rfl
      have d3 : w3.drew.cell? ⟨w.heap.size, 2, none⟩ = some (.string s.b) := by rw [cell_of_row _ _ 2 _ _ _ hx3]; rfl
      have d4 : w3.drew.cell? ⟨w.heap.size, 3, none⟩ = some (.int .i64 (s.num : Int)) := by rw [cell_of_row _ _ 3 _ _ _ hx3]; rfl
      have d5 : (w3.alloc (.cells #[.int .i64 (s.kind : Int), .string s.a, .string s.b, .int .i64 (s.num : Int)] 97)).cell? ⟨R, 2, none⟩ = some (.slice sa m.steps.length sc) := by rw [← hnv]; exact (h3.below (below_alloc _ _)).cell 2
      have h4 : RefAt (w3.alloc (.cells #[.int .i64 (s.kind : Int), .string s.a, .string s.b, .int .i64 (s.num : Int)] 97)).drew R { q with tv := (.slice va (applied m.things s).length vc) } { m.ticked with things := applied m.things s } := h3.below ((below_alloc _ _).drewN 1)
      have hst4 := h4.steps
      simp only [M.ticked_steps] at hst4
      obtain ⟨v4, w4, hrun, hrow, hg, hloc⟩ := nstep_push ((w3.alloc (.cells #[.int .i64 (s.kind : Int), .string s.a, .string s.b, .int .i64 (s.num : Int)] 97)).drew) q.nv m.steps.length m.steps s hst4 w3.heap.size (heap_alloc_new w3 _) hn
      obtain ⟨a4, c4, rfl, _⟩ := row_open (f := nstepC) (k := 4) (fun _ => rfl) hrow (by simp)
      have hp4 := h4.parts.newSteps (v := .slice a4 (m.steps.length + 1) c4) (l := m.steps ++ [s]) hg (by rw [List.length_append]; exact hrow)
      have hb4 : w4.heap[R]? = some (.cells (refCells { q with tv := (.slice va (applied m.things s).length vc) } { m.ticked with things := applied m.things s }) 43) := by
        rw [hg.block R h4.lt (fun e => (row_kind hst4 e.symm).ne h4.kind (by decide) rfl)]
        exact h4.block
      have hfin := RefAt.put hb4 hp4 2 (.slice a4 (m.steps.length + 1) c4) rfl
      have kc4 : w4.cell? ⟨R, 2, none⟩ = some q.nv := by rw [cell_of_row _ _ 2 _ _ _ hb4]; rfl
      have kf4 : w4.frozen? ⟨R, 2, none⟩ = false := by simp only [World.frozen?, hb4]; rfl
      have hts : Turn (q.own R) w w4 := by
        have t1 : Turn (q.own R) w w1.drew := (Turn.of_below (S := q.own R) HB.out).trans (HT1.out.drew 1) (fun _ _ hh => .inl hh)
        have t2 : Turn (q.own R) w w2 := t1.trans (Turn.of_below (S := q.own R) ho2.below) (fun _ _ hh => hh)
        have t3 : Turn (q.own R) w w3 := by rw [← hw3]; exact t2.set _ _ (fun _ => .inl rfl)
        exact ((t3.alloc _).drew 1).trans (Turn.of_grown (S := q.own R) hg (fun k hk => .inr (.inl hk))) (fun _ _ hh => hh)
      have hs3 : w.heap.size ≤ w3.heap.size := by
        have e2 := ho2.below.size
        have e3 : w3.heap.size = w2.heap.size := by rw [← hw3]; simp [World.setCell]
        have e4 : w1.drew.heap.size = w1.heap.size := rfl
        have e5 := HB.out.size
        omega
      have hdone : RefDone w R q (w4.setCell ⟨R, 2, none⟩ (.slice a4 (m.steps.length + 1) c4)) { q with tv := (.slice va (applied m.things s).length vc), nv := .slice a4 (m.steps.length + 1) c4 } { m.ticked with things := applied m.things s, steps := m.steps ++ [s] } := by
        refine ⟨hfin, hts.set _ _ (fun _ => .inl rfl), fun k hk => ?_⟩
        rcases hk with hk | hk | hk | hk
        · exact .inl (.inl hk)
        · rcases hloc with hl | hl
          · rw [hl] at hk; exact .inl (.inr (.inl hk))
          · simp only at hk
            rw [hl] at hk
            injection hk with hk
            have e6 : (w3.alloc (.cells #[.int .i64 (s.kind : Int), .string s.a, .string s.b, .int .i64 (s.num : Int)] 97)).drew.heap.size = w3.heap.size + 1 := by show (w3.alloc _).heap.size = _; simp
            rw [e6] at hk
            exact .inr (by omega)
        · exact .inl (.inr (.inr (.inl hk)))
        · exact .inl (.inr (.inr (.inr hk)))
      rw [hnv] at hrun kc4
      have HRun := Lib.hid hrun
      have HDone := Lib.hid hdone
      clear hrun hdone hfin hts hs3 hp4 hb4 hloc hg hrow hst4 h4 hx3 h3 hs1 hw3 hnv hlx ha2 k0 kf ho2 c0 b0 b1 b2 b3
      go_region_law (refine Row.step_by rfl (.tmp 24) (.tmp 26) _ rfl _ _ rfl rfl HRun.out ?_)
      all_goals
        go_wp2
        go_ret
        exact ⟨rfl, _, HDone.out, rfl, rfl⟩

end
end Go.Proofs.YtmmlefbokplnnaaGreatDoor.Disk

namespace Go.Proofs.YtmmlefbokplnnaaGreatDoor.Disk
open Go.RowKit Go Go.Proofs.YtmmlefbokplnnaaGreatDoor.Base Go.Proofs.YtmmlefbokplnnaaGreatDoor.Map

/-- the bounds that every call asks -/
structure Lim (m : M) : Prop where
  await : m.await < 9223372036854775808
  things : m.things.length < 1000000000000
  steps : m.steps.length < 1099511627776
  files : m.files.length < 1099511627776
  paths : ∀ x ∈ m.things, x.path.size < 4611686018427387904
  texts : ∀ f ∈ m.files, f.now.length < 1099511627776 ∧ f.steps.length < 1099511627776
  sum : m.used < 4611686018427387904
  cap : m.cap ≤ 67108864

theorem names_fst (m : M) (s : NStep) : (m.names s).1 = tickV m := by unfold M.names tickV; split <;> rfl

section
variable {w : World} {R : Nat} {q : RefG} {m : M}

set_option maxRecDepth 100000 in
set_option maxHeartbeats 1000000 in
theorem Mkdir_ref (h : RefAt w R q m) (hm : Lim m) (d : ByteArray) (hd : d.size < 4611686018427387904) :
    Calls Tryz.prog 27 #[.pointer (some ⟨R, 0, none⟩), .string d] w fun r w' => r = .returned (.int .i64 ((m.mkdir d).1 : Int)) ∧ ∃ q', RefDone w R q w' q' (m.mkdir d).2 ∧ q'.fv = q.fv ∧ q'.cs = q.cs := by
  have l1 := refIsName d hd w
  have l2 := is_ref h (by have := hm.things; omega) d
  have l3 : Calls Tryz.prog 69 #[.pointer (some ⟨R, 0, none⟩), .agg #[.int .i64 1, .string d, .string ⟨#[]⟩, .int .i64 0]] w _ := names_ref h hm.await hm.things hm.steps hm.paths ⟨1, d, ByteArray.empty, 0⟩ (.inl rfl) hd (by show ByteArray.empty.size < _; decide)
  have c5 : w.cell? ⟨R, 5, none⟩ = some (.bool m.off) := h.cell 5
  have hsame := RefDone.same h (Below.refl _ _)
  have HS := Lib.hid hsame
  have L3 := Lib.hid l3
  have L2 := Lib.hid l2
  unfold M.mkdir
  clear h hm hsame l3 l2
  cases ho : m.off
  · rw [ho] at c5
    rw [if_neg (by decide)]
    cases hP : isName d
    · rw [hP] at l1
      rw [if_pos rfl]
      clear ho hP
      go_enter Tryz.func27, Tryz.ntmps27
      go_wp2_with (go_at_call 59; refine l1.mono ?_; rintro r w2 ⟨rfl, rfl⟩)
      go_ret
      exact ⟨rfl, q, HS.out, rfl, rfl⟩
    · rw [hP] at l1
      rw [if_neg (by decide)]
      clear ho hP
      by_cases hx : isAt m.things d = 0
      · rw [if_neg (by rw [hx]; decide), names_fst]
        rw [hx] at L2
        clear hx
        go_enter Tryz.func27, Tryz.ntmps27
        go_wp2_with (first
          | (go_at_call 59; refine l1.mono ?_; rintro r w2 ⟨rfl, rfl⟩)
          | (go_at_call 60; ((with_reducible refine L2.out.mono ?_); rintro r w2 ⟨rfl, rfl⟩))
          | (go_at_call 69; ((with_reducible refine L3.out.mono ?_); rintro r w2 ⟨rfl, q', hq'⟩)))
        go_ret
        exact ⟨rfl, q', hq'⟩
      · rw [if_pos hx]
        have hx' : ¬ ((isAt m.things d : Nat) : Int) = 0 := by omega
        generalize isAt m.things d = v at hx' L2
        clear hx
        go_enter Tryz.func27, Tryz.ntmps27
        go_wp2_with (first
          | (go_at_call 59; refine l1.mono ?_; rintro r w2 ⟨rfl, rfl⟩)
          | (go_at_call 60; ((with_reducible refine L2.out.mono ?_); rintro r w2 ⟨rfl, rfl⟩)))
        go_ret
        exact ⟨rfl, q, HS.out, rfl, rfl⟩
  · rw [ho] at c5
    rw [if_pos rfl]
    clear ho
    go_enter Tryz.func27, Tryz.ntmps27
    go_wp2_with (go_at_call 59; refine l1.mono ?_; rintro r w2 ⟨rfl, rfl⟩)
    go_ret
    exact ⟨rfl, q, HS.out, rfl, rfl⟩

end
end Go.Proofs.YtmmlefbokplnnaaGreatDoor.Disk

namespace Go.Proofs.YtmmlefbokplnnaaGreatDoor.Disk
open Go.RowKit Go Go.Proofs.YtmmlefbokplnnaaGreatDoor.Base Go.Proofs.YtmmlefbokplnnaaGreatDoor.Map

section
variable {w : World} {R : Nat} {q : RefG} {m : M}

set_option maxRecDepth 100000 in
set_option maxHeartbeats 1000000 in
theorem Remove_ref (h : RefAt w R q m) (hm : Lim m) (d : ByteArray) (hd : d.size < 4611686018427387904) :
    Calls Tryz.prog 38 #[.pointer (some ⟨R, 0, none⟩), .string d] w fun r w' => r = .returned (.int .i64 ((m.remove d).1 : Int)) ∧ ∃ q', RefDone w R q w' q' (m.remove d).2 ∧ q'.fv = q.fv ∧ q'.cs = q.cs := by
  have l1 := refIsPath d hd w
  have l2 := is_ref h (by have := hm.things; omega) d
  have l3 : Calls Tryz.prog 69 #[.pointer (some ⟨R, 0, none⟩), .agg #[.int .i64 4, .string d, .string ⟨#[]⟩, .int .i64 0]] w _ := names_ref h hm.await hm.things hm.steps hm.paths ⟨4, d, ByteArray.empty, 0⟩ (.inr (.inr (.inr rfl))) hd (by show ByteArray.empty.size < _; decide)
  have c5 : w.cell? ⟨R, 5, none⟩ = some (.bool m.off) := h.cell 5
  have hsame := RefDone.same h (Below.refl _ _)
  have HS := Lib.hid hsame
  have L3 := Lib.hid l3
  have L2 := Lib.hid l2
  unfold M.remove
  clear h hm hsame l3 l2
  cases ho : m.off
  · rw [ho] at c5
    rw [if_neg (by decide)]
    cases hP : isPath d
    · rw [hP] at l1
      rw [if_pos rfl]
      clear ho hP
      go_enter Tryz.func38, Tryz.ntmps38
      go_wp2_with (go_at_call 70; refine l1.mono ?_; rintro r w2 ⟨rfl, rfl⟩)
      go_ret
      exact ⟨rfl, q, HS.out, rfl, rfl⟩
    · rw [hP] at l1
      rw [if_neg (by decide)]
      clear ho hP
      by_cases hx : isAt m.things d = 0
      · rw [if_pos hx]
        rw [hx] at L2
        clear hx
        go_enter Tryz.func38, Tryz.ntmps38
        go_wp2_with (first
          | (go_at_call 70; refine l1.mono ?_; rintro r w2 ⟨rfl, rfl⟩)
          | (go_at_call 60; ((with_reducible refine L2.out.mono ?_); rintro r w2 ⟨rfl, rfl⟩)))
        go_ret
        exact ⟨rfl, q, HS.out, rfl, rfl⟩
      · rw [if_neg hx, names_fst]
        have hx' : ¬ ((isAt m.things d : Nat) : Int) = 0 := by omega
        generalize isAt m.things d = v at hx' L2
        clear hx
        go_enter Tryz.func38, Tryz.ntmps38
        go_wp2_with (first
          | (go_at_call 70; refine l1.mono ?_; rintro r w2 ⟨rfl, rfl⟩)
          | (go_at_call 60; ((with_reducible refine L2.out.mono ?_); rintro r w2 ⟨rfl, rfl⟩))
          | (go_at_call 69; ((with_reducible refine L3.out.mono ?_); rintro r w2 ⟨rfl, q', hq'⟩)))
        go_ret
        exact ⟨rfl, q', hq'⟩
  · rw [ho] at c5
    rw [if_pos rfl]
    clear ho
    go_enter Tryz.func38, Tryz.ntmps38
    go_wp2_with (go_at_call 70; refine l1.mono ?_; rintro r w2 ⟨rfl, rfl⟩)
    go_ret
    exact ⟨rfl, q, HS.out, rfl, rfl⟩

set_option maxRecDepth 100000 in
set_option maxHeartbeats 1000000 in
theorem file_ref (h : RefAt w R q m) (hm : Lim m) (d : ByteArray) (hd : d.size < 4611686018427387904) :
    Calls Tryz.prog 72 #[.pointer (some ⟨R, 0, none⟩), .string d] w fun r w' => r = .returned (.tuple #[.int .i64 ((m.file d).1 : Int), .int .i64 ((m.file d).2 : Int)]) ∧ w = w' := by
  have l1 := refIsPath d hd w
  have l2 := find_ref h.things (by have := hm.things; omega) d
  have c5 : w.cell? ⟨R, 5, none⟩ = some (.bool m.off) := h.cell 5
  have c0 : w.cell? ⟨R, 0, none⟩ = some q.tv := h.cell 0
  obtain ⟨ao, cap, hv, hcap, hr⟩ := row_open (f := thingC) (k := 3) (fun _ => rfl) h.things rfl
  rw [hv] at c0 l2
  have hl := hm.things
  unfold M.file
  clear h hm hv
  cases ho : m.off
  · rw [ho] at c5
    rw [if_neg (by decide)]
    cases hP : isPath d
    · rw [hP] at l1
      rw [if_pos rfl]
      clear ho hP hr l2
      go_enter Tryz.func72, Tryz.ntmps72
      go_wp2_with (go_at_call 70; refine l1.mono ?_; rintro r w2 ⟨rfl, rfl⟩)
      go_ret2
      exact ⟨rfl, rfl⟩
    · rw [hP] at l1
      rw [if_neg (by decide)]
      clear ho hP
      cases hf : find m.things d with
      | none =>
        rw [findI_neg hf] at l2
        clear hr hf
        go_enter Tryz.func72, Tryz.ntmps72
        go_wp2_with (first
          | (go_at_call 70; refine l1.mono ?_; rintro r w2 ⟨rfl, rfl⟩)
          | (go_at_call 90; refine l2.mono ?_; rintro r w2 ⟨rfl, rfl⟩))
        go_ret2
        exact ⟨rfl, rfl⟩
      | some x =>
        obtain ⟨j, hj, e1, e2⟩ := findI_some hf
        rw [e1] at l2
        obtain ⟨g, rfl, hg, hc⟩ := hr j hj
        have d1 : w.cell? ⟨g, j * 3 + 1, none⟩ = some (.bool x.dir) := by rw [hc 1 (by omega), e2]; rfl
        have d2 : w.cell? ⟨g, j * 3 + 2, none⟩ = some (.int .i64 (x.num : Int)) := by rw [hc 2 (by omega), e2]; rfl
        simp only
        clear hc hf e1 e2 hr
        generalize m.things.length = N at *
        cases hd : x.dir
        · rw [hd] at d1
          rw [if_neg (by decide)]
          clear hd
          go_enter Tryz.func72, Tryz.ntmps72
          go_wp2_with (first
            | (go_at_call 70; refine l1.mono ?_; rintro r w2 ⟨rfl, rfl⟩)
            | (go_at_call 90; refine l2.mono ?_; rintro r w2 ⟨rfl, rfl⟩))
          go_ret2
          exact ⟨rfl, rfl⟩
        · rw [hd] at d1
          rw [if_pos rfl]
          clear hd
          go_enter Tryz.func72, Tryz.ntmps72
          go_wp2_with (first
            | (go_at_call 70; refine l1.mono ?_; rintro r w2 ⟨rfl, rfl⟩)
            | (go_at_call 90; refine l2.mono ?_; rintro r w2 ⟨rfl, rfl⟩))
          go_ret2
          exact ⟨rfl, rfl⟩
  · rw [ho] at c5
    rw [if_pos rfl]
    clear ho hr l2
    go_enter Tryz.func72, Tryz.ntmps72
    go_wp2_with (go_at_call 70; refine l1.mono ?_; rintro r w2 ⟨rfl, rfl⟩)
    go_ret2
    exact ⟨rfl, rfl⟩

theorem RefParts.newSafe (h : RefParts w q m) : RefParts w { q with sv := q.tv } { m with safe := m.things } := ⟨h.things, h.things, h.steps, h.files, h.len, h.changes, h.apart⟩
theorem RefParts.noSteps (h : RefParts w q m) : RefParts w { q with nv := .slice none 0 0 } { m with steps := [] } := ⟨h.things, h.safe, World.ownsRow_nil _ _ _ _, h.files, h.len, h.changes, h.apart⟩

set_option maxRecDepth 100000 in
set_option maxHeartbeats 1000000 in
theorem SyncNames_ref (h : RefAt w R q m) (hm : Lim m) :
    Calls Tryz.prog 34 #[.pointer (some ⟨R, 0, none⟩)] w fun r w' => r = .returned (.int .i64 (m.syncNames.1 : Int)) ∧ ∃ q', RefDone w R q w' q' m.syncNames.2 ∧ q'.fv = q.fv ∧ q'.cs = q.cs := by
  have l1 := tick_ref h hm.await
  have c5 : w.cell? ⟨R, 5, none⟩ = some (.bool m.off) := h.cell 5
  have hsame := RefDone.same h (Below.refl _ _)
  have HS := Lib.hid hsame
  unfold M.syncNames
  clear h hm hsame
  cases ho : m.off
  · rw [ho] at c5
    rw [if_neg (by decide)]
    by_cases h1 : m.await = 1
    · have e1 : tickV m = 1 := by unfold tickV; rw [if_pos h1]
      rw [e1] at l1
      rw [if_pos h1]
      have L1 := Lib.hid l1
      clear ho h1 e1 l1
      go_enter Tryz.func34, Tryz.ntmps34
      go_wp2_with (go_at_call 73; ((with_reducible refine L1.out.mono ?_); rintro r w2 ⟨rfl, hr, ht⟩))
      go_ret
      exact ⟨rfl, q, ⟨hr, ht.mono fun _ _ hk => .inl hk, fun _ hk => .inl hk⟩, rfl, rfl⟩
    · have e1 : tickV m = 0 := by unfold tickV; rw [if_neg h1]
      rw [e1] at l1
      rw [if_neg h1]
      have L1 := Lib.hid l1
      have fin : ∀ w2, RefAt w2 R q m.ticked → Turn (fun k => k = R) w w2 → ∃ ao n cap, q.tv = .slice ao n cap ∧ (w2.cell? ⟨R, 0, none⟩ = some (.slice ao n cap) ∧ (∃ u, w2.cell? ⟨R, 1, none⟩ = some u) ∧ (∀ i, w2.frozen? ⟨R, i, none⟩ = false) ∧ (∀ v, (w2.setCell ⟨R, 1, none⟩ v).frozen? ⟨R, 2, none⟩ = false) ∧ ∀ v, ∃ u, (w2.setCell ⟨R, 1, none⟩ v).cell? ⟨R, 2, none⟩ = some u) ∧
          RefDone w R q ((w2.setCell ⟨R, 1, none⟩ (.slice ao n cap)).setCell ⟨R, 2, none⟩ (.slice none 0 0)) { q with sv := q.tv, nv := .slice none 0 0 } { m.ticked with safe := m.things, steps := [] } := fun w2 hr ht => by
        obtain ⟨ao, cap, hv, _⟩ := row_open (f := thingC) (k := 3) (fun _ => rfl) hr.things rfl
        have p1 := RefAt.put hr.block hr.parts.newSafe 1 q.tv rfl
        have p2 := RefAt.put p1.block p1.parts.noSteps 2 (.slice none 0 0) rfl
        refine ⟨ao, _, cap, hv, ⟨by rw [← hv]; exact hr.cell 0, ⟨_, hr.cell 1⟩, hr.fro, fun v => ?_, fun v => ⟨q.nv, ?_⟩⟩, ⟨?_, ?_, fun k hk => ?_⟩⟩
        · have hb := heap_setCell_same w2 R 1 _ _ v hr.block
          simp only [World.frozen?, hb]; rfl
        · rw [cell_of_row _ _ 2 _ _ _ (heap_setCell_same w2 R 1 _ _ v hr.block)]; rfl
        · rw [← hv, show m.things = m.ticked.things from (M.ticked_things m).symm]; exact p2
        · exact ((ht.set _ _ (fun _ => rfl)).set _ _ (fun _ => rfl)).mono fun _ _ hk => .inl hk
        · rcases hk with hk | hk | hk | hk
          · exact .inl (.inl hk)
          · cases hk
          · exact .inl (.inr (.inr (.inl hk)))
          · exact .inl (.inr (.inr (.inr hk)))
      have FIN := Lib.hid fin
      clear ho h1 e1 l1 fin
      go_enter Tryz.func34, Tryz.ntmps34
      go_wp2_with (go_at_call 73; ((with_reducible refine L1.out.mono ?_); rintro r w2 ⟨rfl, hr, ht⟩; obtain ⟨ao, n, cap, hv, ⟨k0, ⟨u1, k1⟩, kf, kf2, k2⟩, hd⟩ := FIN.out w2 hr ht; obtain ⟨u2, k2'⟩ := k2 (.slice ao n cap)))
      go_ret
      exact ⟨rfl, _, hd, rfl, rfl⟩
  · rw [ho] at c5
    rw [if_pos rfl]
    clear ho
    go_enter Tryz.func34, Tryz.ntmps34
    go_wp2
    go_ret
    exact ⟨rfl, q, HS.out, rfl, rfl⟩

end
end Go.Proofs.YtmmlefbokplnnaaGreatDoor.Disk

namespace Go.Proofs.YtmmlefbokplnnaaGreatDoor.Disk
open Go.RowKit Go Go.Proofs.YtmmlefbokplnnaaGreatDoor.Base Go.Proofs.YtmmlefbokplnnaaGreatDoor.Map

/-- the numbers of the files that are there -/
def NumsIn (m : M) : Prop := ∀ x ∈ m.things, x.dir = false → x.num < m.files.length

theorem M.file_lt {m : M} (h : NumsIn m) {p : ByteArray} (hz : (m.file p).2 = 0) : (m.file p).1 < m.files.length := by
  unfold M.file at *
  by_cases h1 : m.off = true
  · rw [if_pos h1] at hz; cases hz
  · rw [if_neg h1] at hz ⊢
    by_cases h2 : isPath p = false
    · rw [if_pos h2] at hz; cases hz
    · rw [if_neg h2] at hz ⊢
      cases hx : find m.things p with
      | none => rw [hx] at hz; cases hz
      | some x =>
        rw [hx] at hz
        simp only at hz ⊢
        by_cases hd : x.dir = true
        · rw [if_pos hd] at hz; cases hz
        · rw [if_neg hd]
          refine h x ?_ (by simpa using hd)
          unfold find at hx
          exact List.mem_of_find?_eq_some hx

theorem M.fileAt_eq {m : M} {j : Nat} (hj : j < m.files.length) : m.fileAt j = m.files[j]'hj := by
  unfold M.fileAt
  rw [List.getD_eq_getElem?_getD, List.getElem?_eq_getElem hj]; rfl

section
variable {w : World} {R : Nat} {q : RefG} {m : M}

/-- a file, where it stands -/
theorem RefAt.fileCells (h : RefAt w R q m) {j : Nat} (hj : j < m.files.length) :
    ∃ g cap, q.fv = .slice (some ⟨g, 0, none⟩) m.files.length cap ∧ m.files.length ≤ cap ∧ g < w.heap.size ∧ w.cell? ⟨g, j * 3, none⟩ = some (.string (strN (m.fileAt j).now)) ∧ w.cell? ⟨g, j * 3 + 1, none⟩ = some (.string (strN (m.fileAt j).safe)) ∧ w.cell? ⟨g, j * 3 + 2, none⟩ = some (q.cs[j]'(by rw [h.len]; exact hj)) := by
  have hzl : (m.files.zip q.cs).length = m.files.length := by rw [List.length_zip, h.len, Nat.min_self]
  obtain ⟨ao, cap, hv, hcap, hr⟩ := row_open (f := fbC) (k := 3) (fun _ => rfl) h.files hzl
  obtain ⟨g, rfl, hg, hc⟩ := hr j (by rw [hzl]; exact hj)
  have e : (m.files.zip q.cs)[j]'(by rw [hzl]; exact hj) = (m.fileAt j, q.cs[j]'(by rw [h.len]; exact hj)) := by rw [List.getElem_zip, M.fileAt_eq hj]
  rw [e] at hc
  exact ⟨g, cap, hv, hcap, hg, hc 0 (by omega), hc 1 (by omega), hc 2 (by omega)⟩

set_option maxRecDepth 100000 in
set_option maxHeartbeats 1000000 in
theorem All_ref (h : RefAt w R q m) (hm : Lim m) (hn : NumsIn m) (p : ByteArray) (hp : p.size < 4611686018427387904) :
    Calls Tryz.prog 41 #[.pointer (some ⟨R, 0, none⟩), .string p] w fun r w' => r = .returned (.tuple #[.string (strN (m.all p).1), .int .i64 ((m.all p).2 : Int)]) ∧ w = w' := by
  have l1 := file_ref h hm p hp
  have c3 : w.cell? ⟨R, 3, none⟩ = some q.fv := h.cell 3
  have hfl := hm.files
  unfold M.all
  by_cases hz : (m.file p).2 = 0
  · rw [if_neg (by rw [hz]; decide)]
    have hlt := M.file_lt hn hz
    obtain ⟨g, cap, hv, hcap, hg, k0, k1, k2⟩ := h.fileCells hlt
    rw [hv] at c3
    rw [hz] at l1
    generalize (m.fileAt (m.file p).1).now = t at k0 ⊢
    generalize (m.file p).1 = j at *
    clear h hm hn hz hv k1 k2
    generalize m.files.length = N at *
    go_enter Tryz.func41, Tryz.ntmps41
    go_wp2_with (go_at_call 72; refine l1.mono ?_; rintro r w2 ⟨rfl, rfl⟩)
    go_ret2
    exact ⟨rfl, rfl⟩
  · rw [if_pos hz]
    have hz' : ¬ (((m.file p).2 : Nat) : Int) = 0 := by omega
    generalize (m.file p).2 = c at *
    generalize (m.file p).1 = j at *
    clear h hm hn hz
    go_enter Tryz.func41, Tryz.ntmps41
    go_wp2_with (go_at_call 72; refine l1.mono ?_; rintro r w2 ⟨rfl, rfl⟩)
    go_ret2
    exact ⟨rfl, rfl⟩

end
end Go.Proofs.YtmmlefbokplnnaaGreatDoor.Disk

namespace Go.Proofs.YtmmlefbokplnnaaGreatDoor.Disk
open Go.RowKit Go Go.Proofs.YtmmlefbokplnnaaGreatDoor.Base Go.Proofs.YtmmlefbokplnnaaGreatDoor.Map

theorem zip_set {α β : Type} (a : List α) (b : List β) (j : Nat) (x : α) (y : β) : (a.set j x).zip (b.set j y) = (a.zip b).set j (x, y) := by
  induction a generalizing b j with
  | nil => simp
  | cons s r ih =>
    cases b with
    | nil => simp
    | cons t u => cases j with
      | zero => simp
      | succ j => simp [ih]

theorem flat_set3 {α : Type} {f : α → List Value} (hk : ∀ x, (f x).length = 3) (l : List α) (j : Nat) (x : α) (a b c : Value) (hx : f x = [a, b, c]) (hj : j < l.length) :
    ((((l.flatMap f).set (j * 3) a).set (j * 3 + 1) b).set (j * 3 + 2) c) = (l.set j x).flatMap f := by
  induction l generalizing j with
  | nil => simp at hj
  | cons s r ih =>
    obtain ⟨s0, s1, s2, hs⟩ : ∃ s0 s1 s2, f s = [s0, s1, s2] := by
      have := hk s
      match h : f s, this with
      | [s0, s1, s2], _ => exact ⟨s0, s1, s2, rfl⟩
    cases j with
    | zero => simp [List.flatMap_cons, hs, hx]
    | succ j =>
      have := ih j (by simpa using hj)
      rw [List.flatMap_cons, hs, List.set_cons_succ, List.flatMap_cons, hs, ← this]
      rw [show (j + 1) * 3 = j * 3 + 3 from by omega]
      simp

section
variable {w w' : World} {R : Nat} {q : RefG} {m : M}

theorem RefParts.newFile {S : Nat → Prop} (h : RefParts w q m) {j g : Nat} (hjc : j < q.cs.length) (f : FB) (v : Value) (hgk : isK w g 101) (ht : Turn S w w') (hS : ∀ k, S k → k = g ∨ (q.cs[j]'hjc).ownBlock = some k)
    (hfiles : w'.ownsRow 0 101 3 q.fv m.files.length (((m.files.set j f).zip (q.cs.set j v)).flatMap fbC)) (hrow : w'.ownsRow 0 120 3 v f.steps.length (f.steps.flatMap changeC))
    (hv : ∀ k, v.ownBlock = some k → (q.cs[j]'hjc).ownBlock = some k ∨ w.heap.size ≤ k) : RefParts w' { q with cs := q.cs.set j v } { m with files := m.files.set j f } := by
  have hck : ∀ k, (q.cs[j]'hjc).ownBlock = some k → isK w k 120 := fun k hk => h.kindC _ (List.getElem_mem hjc) k hk
  have far : ∀ {e : TypeId} {k : Nat}, isK w k e → e ≠ 101 → e ≠ 120 → ¬ S k := fun hk e1 e2 hs => by
    rcases hS _ hs with h1 | h1
    · subst h1; exact e1 (hk.one hgk)
    · exact e2 (hk.one (hck _ h1))
  have alt : ∀ {i : Nat} (hi : i < q.cs.length), i ≠ j → ∀ k, (q.cs[i]'hi).ownBlock = some k → ¬ S k := fun {i} hi hne k hk hs => by
    rcases hS _ hs with h1 | h1
    · subst h1
      have := (h.kindC _ (List.getElem_mem hi) k hk).one hgk
      revert this; decide
    · exact hne (h.apart i j k hi hjc hk h1)
  have lt : ∀ {i : Nat} (hi : i < q.cs.length) (k : Nat), (q.cs[i]'hi).ownBlock = some k → k < w.heap.size := fun {i} hi k hk => row_lt (h.changes i (by rw [← h.len]; exact hi) hi) hk
  refine ⟨row_turn h.things ht fun k hk => far (row_kind h.things hk) (by decide) (by decide), row_turn h.safe ht fun k hk => far (row_kind h.safe hk) (by decide) (by decide), row_turn h.steps ht fun k hk => far (row_kind h.steps hk) (by decide) (by decide), ?_, by simp [h.len], fun i i1 i2 => ?_, fun i l k i1 i2 h1 h2 => ?_⟩
  · simp only [List.length_set]; exact hfiles
  · simp only [List.length_set] at i1 i2
    by_cases hij : j = i
    · subst hij
      simp only [List.getElem_set_self]
      exact hrow
    · simp only [List.getElem_set_ne hij]
      exact row_turn (h.changes i i1 i2) ht fun k hk => alt i2 (fun e => hij e.symm) k hk
  · simp only [List.length_set] at i1 i2
    by_cases hij : j = i <;> by_cases hlj : j = l
    · omega
    · subst hij
      simp only [List.getElem_set_self] at h1
      simp only [List.getElem_set_ne hlj] at h2
      rcases hv k h1 with h3 | h3
      · exact h.apart _ _ k hjc i2 h3 h2
      · have := lt i2 k h2; omega
    · subst hlj
      simp only [List.getElem_set_self] at h2
      simp only [List.getElem_set_ne hij] at h1
      rcases hv k h2 with h3 | h3
      · exact h.apart _ _ k i1 hjc h1 h3
      · have := lt i1 k h1; omega
    · simp only [List.getElem_set_ne hij] at h1
      simp only [List.getElem_set_ne hlj] at h2
      exact h.apart _ _ k i1 i2 h1 h2

/-- a file stored whole: no step is left -/
theorem RefAt.storeFile (h : RefAt w R q m) {j g cap : Nat} (hj : j < m.files.length) (hv : q.fv = .slice (some ⟨g, 0, none⟩) m.files.length cap) (now safe : List Nat) :
    RefAt (((w.setCell ⟨g, j * 3, none⟩ (.string (strN now))).setCell ⟨g, j * 3 + 1, none⟩ (.string (strN safe))).setCell ⟨g, j * 3 + 2, none⟩ (.slice none 0 0)) R { q with cs := q.cs.set j (.slice none 0 0) } (m.setFile j ⟨now, safe, []⟩) := by
  have hjc : j < q.cs.length := by rw [h.len]; exact hj
  have hfs := h.files
  have hgk : isK w g 101 := row_kind hfs (by rw [hv]; rfl)
  have hrow := hfs
  rw [hv] at hrow
  have r1 := (hrow.stored (j * 3) (.string (strN now))).1
  have r2 := (r1.stored (j * 3 + 1) (.string (strN safe))).1
  have r3 := (r2.stored (j * 3 + 2) (.slice none 0 0)).1
  have hzl : (m.files.zip q.cs).length = m.files.length := by rw [List.length_zip, h.len, Nat.min_self]
  rw [flat_set3 (f := fbC) (fun _ => rfl) (m.files.zip q.cs) j ((⟨now, safe, []⟩ : FB), .slice none 0 0) _ _ _ rfl (by rw [hzl]; exact hj), ← zip_set, ← hv] at r3
  have ht : Turn (fun k => k = g) w (((w.setCell ⟨g, j * 3, none⟩ (.string (strN now))).setCell ⟨g, j * 3 + 1, none⟩ (.string (strN safe))).setCell ⟨g, j * 3 + 2, none⟩ (.slice none 0 0)) :=
    (((Turn.refl (fun k => k = g) w).set _ _ (fun _ => rfl)).set _ _ (fun _ => rfl)).set _ _ (fun _ => rfl)
  have hp := h.parts.newFile hjc ⟨now, safe, []⟩ (.slice none 0 0) hgk ht (fun k hk => .inl hk) r3 (World.ownsRow_nil _ _ _ _) (fun k hk => by cases hk)
  refine hp.at ?_
  rw [ht.block R h.lt (fun e => h.kind.ne hgk (by decide) e)]
  exact h.block

end
end Go.Proofs.YtmmlefbokplnnaaGreatDoor.Disk

namespace Go.Proofs.YtmmlefbokplnnaaGreatDoor.Disk
open Go.RowKit Go Go.Proofs.YtmmlefbokplnnaaGreatDoor.Base Go.Proofs.YtmmlefbokplnnaaGreatDoor.Map

section
variable {w : World} {R : Nat} {q : RefG} {m : M}

theorem M.ticked_fileAt (m : M) (j : Nat) : m.ticked.fileAt j = m.fileAt j := by unfold M.fileAt; rw [M.ticked_files]

set_option maxRecDepth 100000 in
set_option maxHeartbeats 2000000 in
theorem Sync_ref (h : RefAt w R q m) (hm : Lim m) (hn : NumsIn m) (p : ByteArray) (hp : p.size < 4611686018427387904) :
    Calls Tryz.prog 33 #[.pointer (some ⟨R, 0, none⟩), .string p] w fun r w' => r = .returned (.int .i64 ((m.sync p).1 : Int)) ∧ ∃ q', RefDone w R q w' q' (m.sync p).2 := by
  have l1 := file_ref h hm p hp
  have l2 := tick_ref h hm.await
  have hfl := hm.files
  have hsame := RefDone.same h (Below.refl _ _)
  have HS := Lib.hid hsame
  have L2 := Lib.hid l2
  unfold M.sync
  by_cases hz : (m.file p).2 = 0
  · rw [if_neg (by rw [hz]; decide)]
    have hlt := M.file_lt hn hz
    rw [hz] at l1
    generalize (m.file p).1 = j at *
    clear h hm hn hsame l2 hz
    by_cases h1 : m.await = 1
    · have e1 : tickV m = 1 := by unfold tickV; rw [if_pos h1]
      rw [e1] at L2
      rw [if_pos h1]
      clear h1 e1
      go_enter Tryz.func33, Tryz.ntmps33
      go_wp2_with (first
        | (go_at_call 72; refine l1.mono ?_; rintro r w2 ⟨rfl, rfl⟩)
        | (go_at_call 73; ((with_reducible refine L2.out.mono ?_); rintro r w2 ⟨rfl, hr, ht⟩)))
      go_ret
      exact ⟨rfl, q, ⟨hr, ht.mono fun _ _ hk => .inl hk, fun _ hk => .inl hk⟩⟩
    · have e1 : tickV m = 0 := by unfold tickV; rw [if_neg h1]
      rw [e1] at L2
      rw [if_neg h1]
      clear h1 e1
      go_enter Tryz.func33, Tryz.ntmps33
      go_wp2_with (first
        | (go_at_call 72; refine l1.mono ?_; rintro r w2 ⟨rfl, rfl⟩)
        | (go_at_call 73; ((with_reducible refine L2.out.mono ?_); rintro r w2 ⟨rfl, hr, ht⟩)))
      have hlt2 : j < m.ticked.files.length := by rw [M.ticked_files]; exact hlt
      have hr2 : RefAt w2.drew R q m.ticked := hr.below ((Below.refl _ _).drewN 1)
      obtain ⟨g, cap, hv, hcap, hg, k0, k1, k2⟩ := hr2.fileCells hlt2
      obtain ⟨cv, hcv⟩ : ∃ cv, w2.drew.cell? ⟨g, j * 3 + 2, none⟩ = some cv := ⟨_, k2⟩
      clear k2
      have c3 : w2.drew.cell? ⟨R, 3, none⟩ = some q.fv := hr2.cell 3
      have hst := hr2.storeFile hlt2 hv (m.fileAt j).now (m.fileAt j).now
      have hrw := hr2.files
      rw [hv] at hrw c3
      have fz : ∀ i, w2.drew.frozen? ⟨g, i, none⟩ = false := fun i => World.ownsRow.frozenAt hrw i
      rw [M.ticked_fileAt] at k0 k1
      rw [M.ticked_files] at c3
      obtain ⟨bcells, hbk⟩ : ∃ cur, w2.drew.heap[g]? = some (.cells cur 101) := row_cells hrw rfl
      have HD : Hid (RefDone w R q (((w2.drew.setCell ⟨g, j * 3, none⟩ (.string (strN (m.fileAt j).now))).setCell ⟨g, j * 3 + 1, none⟩ (.string (strN (m.fileAt j).now))).setCell ⟨g, j * 3 + 2, none⟩ (.slice none 0 0)) { q with cs := q.cs.set j (.slice none 0 0) } (m.ticked.setFile j ⟨(m.fileAt j).now, (m.fileAt j).now, []⟩)) := Lib.hid (by
        refine ⟨hst, ?_, fun k hk => ?_⟩
        · have t1 : Turn (q.own R) w w2.drew := (ht.drew 1).mono fun _ _ hk => .inl hk
          have og : q.own R g := .inr (.inr (.inl (by rw [hv]; rfl)))
          exact ((t1.set _ _ (fun _ => og)).set _ _ (fun _ => og)).set _ _ (fun _ => og)
        · rcases hk with hk | hk | hk | ⟨v, hv2, hk⟩
          · exact .inl (.inl hk)
          · exact .inl (.inr (.inl hk))
          · exact .inl (.inr (.inr (.inl hk)))
          · simp only at hv2
            rcases List.mem_or_eq_of_mem_set hv2 with h3 | h3
            · exact .inl (.inr (.inr (.inr ⟨v, h3, hk⟩)))
            · subst h3; cases hk)
      have q1 : (w2.drew.setCell ⟨g, j * 3, none⟩ (.string (strN (m.fileAt j).now))).cell? ⟨g, j * 3 + 1, none⟩ = some (.string (strN (m.fileAt j).safe)) := by
        rw [cell_of_row _ g _ _ _ _ (heap_setCell_same w2.drew g (j * 3) bcells _ _ hbk)]
        have := k1
        rw [cell_of_row _ g _ _ _ _ hbk] at this
        rw [Array.getElem?_setIfInBounds_ne (by omega)]
        exact this
      obtain ⟨u2, hu2⟩ : ∃ u, ((w2.drew.setCell ⟨g, j * 3, none⟩ (.string (strN (m.fileAt j).now))).setCell ⟨g, j * 3 + 1, none⟩ (.string (strN (m.fileAt j).now))).cell? ⟨g, j * 3 + 2, none⟩ = some u := by
        refine ⟨cv, ?_⟩
        rw [cell_of_row _ g _ _ _ _ (heap_setCell_same _ g (j * 3 + 1) _ _ _ (heap_setCell_same w2.drew g (j * 3) bcells _ _ hbk))]
        rw [Array.getElem?_setIfInBounds_ne (by omega), Array.getElem?_setIfInBounds_ne (by omega)]
        have := hcv
        rw [cell_of_row _ g _ _ _ _ hbk] at this
        exact this
      have f1 : (w2.drew.setCell ⟨g, j * 3, none⟩ (.string (strN (m.fileAt j).now))).frozen? ⟨g, j * 3 + 1, none⟩ = false := by
        simp only [World.frozen?, heap_setCell_same w2.drew g (j * 3) bcells _ _ hbk]; rfl
      have f2 : ((w2.drew.setCell ⟨g, j * 3, none⟩ (.string (strN (m.fileAt j).now))).setCell ⟨g, j * 3 + 1, none⟩ (.string (strN (m.fileAt j).now))).frozen? ⟨g, j * 3 + 2, none⟩ = false := by
        simp only [World.frozen?, heap_setCell_same _ g (j * 3 + 1) _ _ _ (heap_setCell_same w2.drew g (j * 3) bcells _ _ hbk)]; rfl
      generalize m.files.length = N at *
      generalize strN (m.fileAt j).now = tn at *
      generalize strN (m.fileAt j).safe = ts at *
      clear hst hrw hr hr2 hlt2 hbk hv
      refine wp_region_still_tail 22 (by kernel_rfl) (by kernel_rfl) ?_
      simp only [List.take_succ_cons, List.take_zero, List.drop_succ_cons, List.drop_zero]
      change wpStill _ _ w2.drew _ _ _
      repeat still_step
      refine wpStill_nil ?_
      change wpList _ _ _ _ _ w2.drew
      clear ht
      generalize w2.drew = w3 at *
      go_wp2
      go_ret
      exact ⟨rfl, _, HD.out⟩
  · rw [if_pos hz]
    have hz' : ¬ (((m.file p).2 : Nat) : Int) = 0 := by omega
    generalize (m.file p).2 = c at *
    generalize (m.file p).1 = j at *
    clear h hm hn hsame l2 hz
    go_enter Tryz.func33, Tryz.ntmps33
    go_wp2_with (go_at_call 72; refine l1.mono ?_; rintro r w2 ⟨rfl, rfl⟩)
    go_ret
    exact ⟨rfl, q, HS.out⟩

end
end Go.Proofs.YtmmlefbokplnnaaGreatDoor.Disk

namespace Go.Proofs.YtmmlefbokplnnaaGreatDoor.Disk
open Go.RowKit Go Go.Proofs.YtmmlefbokplnnaaGreatDoor.Base Go.Proofs.YtmmlefbokplnnaaGreatDoor.Map

theorem strN_extract (t : List Nat) (i k : Nat) : (strN t).extract i (i + k) = strN ((t.drop i).take k) := by
  unfold strN
  apply ByteArray.ext
  rw [ByteArray.data_extract]
  apply Array.ext'
  simp [List.extract_eq_take_drop, List.map_take, List.map_drop]

section
variable {w : World} {R : Nat} {q : RefG} {m : M}

set_option maxRecDepth 100000 in
set_option maxHeartbeats 1000000 in
theorem Read_ref (h : RefAt w R q m) (hm : Lim m) (hn : NumsIn m) (p : ByteArray) (hp : p.size < 4611686018427387904) (a n : Int) (ha : inI a) (hni : inI n) (hL : (m.all p).1.length < 1099511627776) :
    Calls Tryz.prog 40 #[.pointer (some ⟨R, 0, none⟩), .string p, .int .i64 a, .int .i64 n] w fun r w' => ∃ s, r = .returned (.tuple #[.string s, .int .i64 ((m.read p a n).2 : Int)]) ∧ (s = strN (m.read p a n).1) ∧ w = w' := by
  have l1 := All_ref h hm hn p hp
  have e1 : (m.all p).2 = (m.file p).2 := by unfold M.all; by_cases hz : (m.file p).2 = 0 <;> simp [hz]
  have e0 : (m.file p).2 = 0 → (m.all p).1 = (m.fileAt (m.file p).1).now := fun hz => by unfold M.all; rw [if_neg (by rw [hz]; decide)]
  have hl := hL
  unfold M.read
  rw [e1] at l1
  unfold inI at ha hni
  by_cases hz : (m.file p).2 = 0
  · rw [if_neg (by rw [hz]; decide), ← e0 hz]
    rw [hz] at l1
    generalize (m.all p).1 = t at *
    have hsz : (strN t).size = t.length := strN_size t
    clear h hm hn hL e0 e1 hz
    have L1 := Lib.hid l1
    clear l1
    obtain ⟨s, hs⟩ : ∃ s, strN t = s := ⟨_, rfl⟩
    rw [hs] at L1 hsz
    have HT := Lib.hid hs
    clear hs
    rw [← hsz] at hl ⊢
    by_cases h1 : a < 0
    · rw [if_pos (.inl h1)]
      go_enter Tryz.func40, Tryz.ntmps40
      go_wp2_with (go_at_call 41; ((with_reducible refine L1.out.mono ?_); rintro r w2 ⟨rfl, rfl⟩))
      go_ret2
      exact ⟨_, rfl, rfl, rfl⟩
    · by_cases h2 : (s.size : Int) < a
      · rw [if_pos (.inr (.inl h2))]
        go_enter Tryz.func40, Tryz.ntmps40
        go_wp2_with (go_at_call 41; ((with_reducible refine L1.out.mono ?_); rintro r w2 ⟨rfl, rfl⟩))
        go_ret2
        exact ⟨_, rfl, rfl, rfl⟩
      · by_cases h3 : n < 0
        · rw [if_pos (.inr (.inr (.inl h3)))]
          go_enter Tryz.func40, Tryz.ntmps40
          go_wp2_with (go_at_call 41; ((with_reducible refine L1.out.mono ?_); rintro r w2 ⟨rfl, rfl⟩))
          go_ret2
          exact ⟨_, rfl, rfl, rfl⟩
        · by_cases h4 : (s.size : Int) - a < n
          · rw [if_pos (.inr (.inr (.inr h4)))]
            go_enter Tryz.func40, Tryz.ntmps40
            go_wp2_with (go_at_call 41; ((with_reducible refine L1.out.mono ?_); rintro r w2 ⟨rfl, rfl⟩))
            go_ret2
            exact ⟨_, rfl, rfl, rfl⟩
          · rw [if_neg (by omega)]
            obtain ⟨i, rfl⟩ : ∃ i : Nat, a = (i : Int) := ⟨a.toNat, by omega⟩
            obtain ⟨k, rfl⟩ : ∃ k : Nat, n = (k : Int) := ⟨n.toNat, by omega⟩
            have hx : s.extract i (i + k) = strN ((t.drop ((i : Int)).toNat).take ((k : Int)).toNat) := by rw [← HT.out, strN_extract]; simp
            have HX := Lib.hid hx
            clear hx HT
            have g1 : IntKind.i64.wrap ((i : Int) + (k : Int)) = ((i + k : Nat) : Int) := by rw [IntWalk.i64_in _ (by omega)]; omega
            have g2 : i + k ≤ s.size := by omega
            have g3 : i ≤ i + k := by omega
            go_enter Tryz.func40, Tryz.ntmps40
            go_wp2_with (go_at_call 41; ((with_reducible refine L1.out.mono ?_); rintro r w2 ⟨rfl, rfl⟩))
            go_ret2
            exact ⟨_, rfl, HX.out, rfl⟩
  · rw [if_pos hz]
    have hz' : ¬ (((m.file p).2 : Nat) : Int) = 0 := by omega
    generalize (m.file p).2 = c at *
    generalize strN (m.all p).1 = t at *
    clear h hm hn hz e0 e1 hL
    go_enter Tryz.func40, Tryz.ntmps40
    go_wp2_with (go_at_call 41; refine l1.mono ?_; rintro r w2 ⟨rfl, rfl⟩)
    go_ret2
    exact ⟨_, rfl, rfl, rfl⟩

end
end Go.Proofs.YtmmlefbokplnnaaGreatDoor.Disk
