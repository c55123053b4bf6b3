/-
  Names steps become durable: makeDurable, SyncNames. Own text.
-/
import Derived.Test.YtanbmlikfhcpoaaDoorDAppend
namespace Go.Proofs.YtanbmlikfhcpoaaDoor.Disk
open Go.RowKit Go Go.Proofs.YtanbmlikfhcpoaaDoor.Base Go.Proofs.YtanbmlikfhcpoaaDoor.Map

/-- names steps, one after the other -/
def AppAll : List NStep → TreeG → TreeG → Prop
  | [], g, g' => g' = g
  | s :: r, g, g' => ∃ gm, Applied s g gm ∧ AppAll r gm g'

theorem AppAll.snoc {l : List NStep} {s : NStep} {g gm g' : TreeG} (h : AppAll l g gm) (hs : Applied s gm g') : AppAll (l ++ [s]) g g' := by
  induction l generalizing g with
  | nil => cases h; exact ⟨g', hs, rfl⟩
  | cons a r ih => obtain ⟨q, h1, h2⟩ := h; exact ⟨q, h1, ih h2⟩

/-- the durable tree was written -/
theorem DiskAt.wroteD {w w' : World} {D : Nat} {G : DiskG} {g' : TreeG} (h : DiskAt w D G) (hw : Wrote w w' G.ptr D 1 G.cells 46 G.gd g') : DiskAt w' D { G with gd := g' } := by
  obtain ⟨n1, n2, n3, n4, n5⟩ := h.parts.notD h.kind
  have hgc : ∀ b ∈ G.gc.blocks, ¬ (b = D ∨ b ∈ G.gd.blocks) := fun b hb hh => by
    rcases hh with hh | hh
    · exact n1 b hb hh
    · exact h.parts.trees b hb hh
  refine ⟨?_, ⟨h.parts.cur.of_heap fun b hb => hw.turn.block b (h.parts.cur.lt b hb) (hgc b hb), hw.tree, fun b hb hb2 => ?_, ?_, fun x hx => ?_, fun i hi => ?_, h.parts.inj, h.parts.bytes, h.parts.rows⟩⟩
  · rw [hw.holds]; rfl
  · rcases hw.new b hb2 with h1 | h1
    · exact h.parts.trees b hb h1
    · have := h.parts.cur.lt b hb; omega
  · refine row_turn h.parts.row hw.turn fun k hk hh => ?_
    rcases hh with hh | hh
    · exact n3 k hk hh
    · exact (row_kind h.parts.row hk).noMap (h.parts.dur.maps k hh)
  · refine (h.parts.steps x hx).of_heap fun b hb => hw.turn.block b ((h.parts.steps x hx).lt b hb) fun hh => ?_
    rcases hh with hh | hh
    · exact n4 x hx b hb hh
    · rcases (h.parts.steps x hx).kinds b hb with h1 | h1 <;> exact h1.noMap (h.parts.dur.maps b hh)
  · refine (h.parts.files i hi).turn hw.turn fun k hk hh => ?_
    rcases hh with hh | hh
    · exact n5 i hi k hk hh
    · rcases (h.parts.files i hi).kinds hk with h1 | h1 | h1 <;> exact h1.noMap (h.parts.dur.maps k hh)

def DiskG.nsteps (G : DiskG) : List NStep := G.steps.map (·.s)

set_option maxRecDepth 100000 in
set_option maxHeartbeats 4000000 in
theorem makeDurable_any {w : World} {D : Nat} {G : DiskG} {E : Nat → Addr} (h : DiskAt w D G) (he : Env w E) (hown : ∀ k, k < 8 → ¬ G.own D k) (n : Nat) (hn : n ≤ G.steps.length) (hlen : G.steps.length < 1099511627776)
    (hfit : ∀ j (hj : j < G.steps.length) gm, AppAll (G.nsteps.take j) G.gd gm → Fits (G.steps[j]'hj).s gm) :
    Calls Tryd.prog 22 #[.pointer (some ⟨D, 0, none⟩), .int .i64 (n : Int)] w fun r w' =>
      r = .returned (.tuple #[]) ∧ ∃ gd', AppAll (G.nsteps.take n) G.gd gd' ∧ DiskAt w' D { G with gd := gd' } ∧ Turn (fun k => k = D ∨ k ∈ G.gd.blocks) w w' ∧ (∀ b ∈ gd'.blocks, b ∈ G.gd.blocks ∨ w.heap.size ≤ b) := by
  obtain ⟨ad, cap, hnv, hcap⟩ := row_len h.parts.row
  have c2 : w.cell? ⟨D, 2, none⟩ = some (.slice ad G.steps.length cap) := by rw [h.cell 2, ← hnv]; rfl
  have hrow := h.parts.row
  rw [hnv] at hrow
  have hcell : ∀ j (hj : j < G.steps.length), ∃ g, ad = some ⟨g, 0, none⟩ ∧ g < w.heap.size ∧ w.cell? ⟨g, j, none⟩ = some (G.steps[j]'hj).v ∧ isK w g 74 := fun j hj => by
    rcases hrow.2 with ⟨_, h0⟩ | ⟨g, cap', cur, h1, _, h2, _⟩
    · omega
    · injection h1 with h1
      subst h1
      refine ⟨g, rfl, (Array.getElem?_eq_some_iff.1 h2).1, ?_, ⟨_, _, h2⟩⟩
      have := hrow.cells (g := g) rfl j (G.steps[j]'hj).v (by rw [List.getElem?_map, List.getElem?_eq_getElem hj]; rfl)
      rwa [Go.WideShapes.add_plain, Nat.zero_add] at this
  obtain ⟨N, hN⟩ : ∃ N, G.steps.length = N := ⟨_, rfl⟩
  have had : ad = none → N = 0 ∧ cap = 0 := fun hh => by
    subst hh
    rcases hrow.2 with ⟨h1, h0⟩ | ⟨g, cap', cur, h1, _⟩
    · injection h1 with _ _ h3; exact ⟨by omega, h3⟩
    · cases h1
  have HN := Lib.hid hN
  have HC := Lib.hid hcell
  have HF := Lib.hid hfit
  have HD := Lib.hid h
  have HE := Lib.hid he
  have HO := Lib.hid hown
  rw [hN] at c2 hlen hn hcap
  have hnc : n ≤ cap := by omega
  have Hnc := Lib.hid hnc
  clear h he hown hnv hrow hcell hN hfit
  cases ad with
  | none =>
    obtain ⟨h1, h2⟩ := had rfl
    have hn0 : n = 0 := by omega
    subst hn0 h2
    go_enter Tryd.func22, Tryd.ntmps22
    go_wp2_with fail
    refine wp_loop_rounds 1 ?_
    rw [rounds_succ]
    go_wp2
    go_end0
    exact ⟨rfl, _, rfl, HD.out, Turn.refl _ _, fun b hb => .inl hb⟩
  | some a =>
    go_enter Tryd.func22, Tryd.ntmps22
    go_wp2_with fail
    go_loopg [13] n (fun r i wr => ∃ (j : Nat) (gd' : TreeG), Hid (j + r = n) ∧ j ≤ n ∧ i = .int .i64 (j : Int) ∧ Hid (AppAll (G.nsteps.take j) G.gd gd') ∧ Hid (DiskAt wr D { G with gd := gd' }) ∧ Hid (Turn (fun k => k = D ∨ k ∈ G.gd.blocks) w wr) ∧ Hid (∀ b ∈ gd'.blocks, b ∈ G.gd.blocks ∨ w.heap.size ≤ b))
    case atStart => exact ⟨0, G.gd, Nat.zero_add _, Nat.zero_le _, rfl, rfl, HD.out, Turn.refl _ _, fun b hb => .inl hb⟩
    case round =>
      obtain ⟨j, gd', hE, hj, rfl, hap, hd, ht, hbl⟩ := hrel
      by_cases hlt : j < n
      · have hjl : j < G.steps.length := by rw [HN.out]; omega
        obtain ⟨g, hag, hgl, hgc, hgk⟩ := HC.out j hjl
        injection hag with hag
        subst hag
        have hx := hd.out.parts.steps (G.steps[j]'hjl) (List.getElem_mem hjl)
        obtain ⟨x, hxe⟩ : ∃ x, G.steps[j]'hjl = x := ⟨_, rfl⟩
        rw [hxe] at hx hgc
        have hfit := HF.out j hjl gd' hap.out
        rw [hxe] at hfit
        have hgc' : wr.cell? ⟨g, j, none⟩ = some x.v := ht.out.cell hgc (fun hh => by
          rcases hh with hh | hh
          · exact hgk.ne HD.out.kind (by decide) hh
          · exact hgk.noMap (HD.out.parts.dur.maps _ hh))
        have henv : Env wr E := HE.out.turn ht.out (fun k hk hh => HO.out k hk (by rcases hh with hh | hh; exact .inl hh; exact .inr (.inr (.inl hh))))
        have hvv : ∃ gf lb, x.v = .func (.func gf) #[] lb ∧ (∀ args w, (callFunc gf args).run Tryd.prog w = .ok (.enter gf args) w) := by
          obtain ⟨gf, lb, hv, hen, _⟩ := step_applies hx hd.out.parts.dur D 1 _ 46 ⟨hd.out.block, rfl⟩ hfit henv.max
          exact ⟨gf, lb, hv, hen⟩
        obtain ⟨gf, lb, hv, hen⟩ := hvv
        rw [hv] at hgc'
        have hcl : ∀ w2, Below wr.heap.size wr w2 → Calls Tryd.prog gf (#[.pointer (some ⟨D, 1, none⟩)] ++ lb) w2 fun r w' => r = .returned (.tuple #[]) ∧ ∃ g', Applied x.s gd' g' ∧ Wrote w2 w' G.ptr D 1 (DiskG.cells { G with gd := gd' }) 46 gd' g' := fun w2 hb2 => by
          have hd2 := hd.out.below hb2
          obtain ⟨gf', lb', hv', _, hc'⟩ := step_applies (hx.of_heap fun b hb => hb2.block b (hx.lt b hb)) hd2.parts.dur D 1 _ 46 ⟨hd2.block, rfl⟩ hfit (henv.turn (Turn.of_below (S := fun _ => False) hb2) (fun _ _ h => h)).max
          rw [hv] at hv'
          injection hv' with hv1 hv2 hv3
          injection hv1 with hv1
          subst hv1 hv3
          exact hc'
        have hsf : ∀ (a : Addr) (W : World), (store a (.func (.func gf) #[] lb)).run Tryd.prog W = stored Tryd.prog W a (.func (.func gf) #[] lb) .plain := fun a W => run_store Tryd.prog W a _ .plain rfl
        have HCL := Lib.hid hcl
        have HXE := Lib.hid hxe
        clear hcl hx hfit henv hv hgc hxe hgk
        go_wp2_with fail
        obtain ⟨wc, hwc⟩ : ∃ wc, wc = wr.alloc (.cells #[.func (.func gf) #[] lb] 74) := ⟨_, rfl⟩
        rw [← hwc]
        have hbc : Below wr.heap.size wr wc.drew := by rw [hwc]; exact (below_alloc _ _).drew
        have hbx : wc.drew.cell? ⟨wr.heap.size, 0, none⟩ = some (.func (.func gf) #[] lb) := by rw [hwc]; exact World.cell?_alloc_new _ _ _ _
        have HBC := Lib.hid hbc
        clear hbc hwc hgc'
        refine wp_region_still_tail 5 (by kernel_rfl) (by kernel_rfl) ?_
        simp only [List.take_succ_cons, List.take_zero, List.drop_succ_cons, List.drop_zero]
        change wpStill _ _ wc.drew _ _ _
        repeat still_step
        refine wpStill_nil ?_
        change wpList _ _ _ _ _ wc.drew
        go_wp2_with (go_at_fn gf; ((refine (HCL.out _ HBC.out).mono ?_); rintro r w3 ⟨rfl, g', hap', hw3⟩))
        go_roundg (n - (j + 1))
        case measure => have := hE.out; omega
        case rel =>
          have hd3 := (hd.out.below HBC.out).wroteD hw3
          have hs1 := ht.out.size
          have hs2 := HBC.out.size
          refine ⟨j + 1, g', by show _ = _; have := hE.out; omega, by omega, by go_num, ?_, hd3, ?_, ?_⟩
          · have e : G.nsteps.take (j + 1) = G.nsteps.take j ++ [x.s] := by
              have hjn : j < G.nsteps.length := by unfold DiskG.nsteps; simpa using hjl
              rw [List.take_succ_eq_append_getElem hjn]
              congr 2
              simp only [DiskG.nsteps, List.getElem_map, HXE.out]
            show AppAll _ _ _
            rw [e]
            exact hap.out.snoc hap'
          · refine ht.out.trans (S' := fun k => k = D ∨ k ∈ gd'.blocks) ((Turn.of_below HBC.out).trans hw3.turn (fun _ _ h => h)) ?_
            intro k hk hh
            rcases hh with hh | hh
            · exact .inl hh
            · rcases hbl.out k hh with h1 | h1
              · exact .inr h1
              · omega
          · intro b hb
            rcases hw3.new b hb with h1 | h1
            · exact hbl.out b h1
            · exact .inr (by omega)
      · obtain rfl : j = n := by omega
        clear hlt hE
        go_wp2
        go_end0
        exact ⟨rfl, gd', hap.out, hd.out, ht.out, hbl.out⟩

def syncNamesCode (G : DiskG) : Nat := if G.off then 1 else if G.crash = 1 then 1 else 0
def SyncedNames (G : DiskG) (c : Nat) (G' : DiskG) : Prop :=
  (c ≠ 0 ∧ (G' = G ∨ (G.crash = 1 ∧ G' = { G with off := true }))) ∨
  (c = 0 ∧ ∃ gd', AppAll G.nsteps G.gd gd' ∧ G' = { G with crash := G.crash - 1, gd := gd', steps := [], nv := .slice none 0 0 })

theorem DiskAt.noNames {w : World} {D : Nat} {G : DiskG} (h : DiskAt w D G) : DiskAt (w.setCell ⟨D, 2, none⟩ (.slice none 0 0)) D { G with steps := [], nv := .slice none 0 0 } :=
  h.set 2 (.slice none 0 0) _ rfl (fun hp => ⟨hp.cur, hp.dur, hp.trees, World.ownsRow_nil _ _ _ _, fun x hx => (by cases hx), hp.files, hp.inj, hp.bytes, hp.rows⟩)

set_option maxRecDepth 100000 in
set_option maxHeartbeats 2000000 in
theorem syncNames_any {w : World} {D : Nat} {G : DiskG} {E : Nat → Addr} (h : DiskAt w D G) (he : Env w E) (hc : G.crash < 4611686018427387904) (hown : ∀ k, k < 8 → ¬ G.own D k) (hlen : G.steps.length < 1099511627776)
    (hfit : ∀ j (hj : j < G.steps.length) gm, AppAll (G.nsteps.take j) G.gd gm → Fits (G.steps[j]'hj).s gm) :
    Calls Tryd.prog 21 #[.pointer (some ⟨D, 0, none⟩)] w fun r w' =>
      r = .returned (errV E (syncNamesCode G)) ∧ ∃ G', DiskAt w' D G' ∧ Turn (G.own D) w w' ∧ SyncedNames G (syncNamesCode G) G' ∧ (∀ k, G'.own D k → G.own D k ∨ w.heap.size ≤ k) := by
  have hoff := off_any h
  have hst := step_any h he hc
  have g0 := he.off
  unfold errV at g0
  unfold syncNamesCode
  have HD := Lib.hid h
  cases ho : G.off
  · rw [ho] at hoff
    rw [if_neg (by decide)]
    by_cases h1 : G.crash = 1
    · have e1 : stepCode G = 1 := by unfold stepCode; rw [if_pos h1]
      have e2 : ticked G = { G with off := true } := by unfold ticked; rw [if_pos h1]
      rw [e1, e2] at hst
      rw [if_pos h1]
      have H1 := Lib.hid h1
      have HS := Lib.hid hst
      unfold errV at HS ⊢
      clear h he hc hown hlen hfit hst h1 e1 e2 ho
      go_enter Tryd.func21, Tryd.ntmps21
      go_wp2_with (first | (go_at_call 14; refine hoff.mono ?_; rintro r w2 ⟨rfl, rfl⟩) | (go_at_call 41; ((with_reducible refine HS.out.mono ?_); rintro r w3 ⟨rfl, hd3, ht3⟩)))
      go_ret
      exact ⟨rfl, _, hd3, ht3.mono (fun i _ hh => .inl hh), .inl ⟨by decide, .inr ⟨H1.out, rfl⟩⟩, fun k hk => .inl hk⟩
    · have e1 : stepCode G = 0 := by unfold stepCode; rw [if_neg h1]
      have e2 : ticked G = { G with crash := G.crash - 1 } := by unfold ticked; rw [if_neg h1]
      rw [e1, e2] at hst
      rw [if_neg h1]
      have hmd : ∀ w3, DiskAt w3 D { G with crash := G.crash - 1 } → Turn (fun k => k = D) w w3 → Calls Tryd.prog 22 #[.pointer (some ⟨D, 0, none⟩), .int .i64 (G.steps.length : Int)] w3 fun r w' =>
          r = .returned (.tuple #[]) ∧ ∃ gd', AppAll (G.nsteps.take G.steps.length) G.gd gd' ∧ DiskAt w' D { G with crash := G.crash - 1, gd := gd' } ∧ Turn (fun k => k = D ∨ k ∈ G.gd.blocks) w3 w' ∧ (∀ b ∈ gd'.blocks, b ∈ G.gd.blocks ∨ w3.heap.size ≤ b) := fun w3 hd3 ht3 =>
        makeDurable_any hd3 (he.turn ht3 (fun k hk hh => hown k hk (.inl hh))) hown G.steps.length (Nat.le_refl _) hlen hfit
      have HMD := Lib.hid hmd
      have HS := Lib.hid hst
      unfold errV at HS ⊢
      have hnl : G.nsteps.take G.steps.length = G.nsteps := by rw [List.take_of_length_le]; unfold DiskG.nsteps; simp
      have HNL := Lib.hid hnl
      obtain ⟨ad, cap, hnv, _⟩ := row_len h.parts.row
      have HNV := Lib.hid hnv
      clear h he hc hown hlen hfit hst h1 e1 e2 ho hmd hnl hnv
      go_enter Tryd.func21, Tryd.ntmps21
      go_wp2_with (first
        | (go_at_call 14; refine hoff.mono ?_; rintro r w2 ⟨rfl, rfl⟩)
        | (go_at_call 41; ((with_reducible refine HS.out.mono ?_); rintro r w3 ⟨rfl, hd3, ht3⟩; have k2 : w3.cell? ⟨D, 2, none⟩ = some (.slice ad G.steps.length cap) := (by rw [hd3.cell 2, ← HNV.out]; rfl); have HD3 := Lib.hid hd3; clear hd3))
        | (go_at_call 22; ((with_reducible refine (HMD.out _ HD3.out ht3).mono ?_); rintro r w4 ⟨rfl, gd', hap, hd4, ht4, hb4⟩; have q2 : w4.cell? ⟨D, 2, none⟩ = some G.nv := hd4.cell 2; have f2 := hd4.fro 2; have HD4 := Lib.hid hd4; clear hd4)))
      go_ret
      rw [HNL.out] at hap
      have hs3 := ht3.size
      refine ⟨rfl, _, HD4.out.noNames, ?_, .inr ⟨rfl, gd', hap, rfl⟩, fun k hk => ?_⟩
      · exact ((ht3.mono (fun i _ hh => .inl hh) : Turn (G.own D) w w3).trans ht4 (fun k _ hh => by rcases hh with hh | hh; exact .inl hh; exact .inr (.inr (.inl hh)))).set _ _ (fun _ => .inl rfl)
      · rcases hk with hk | hk | hk | hk | ⟨x, hx, _⟩ | hk
        · exact .inl (.inl hk)
        · exact .inl (.inr (.inl hk))
        · rcases hb4 k hk with h1 | h1
          · exact .inl (.inr (.inr (.inl h1)))
          · exact .inr (by omega)
        · cases hk
        · cases hx
        · exact .inl (.inr (.inr (.inr (.inr (.inr hk)))))
  · rw [ho] at hoff
    rw [if_pos rfl]
    unfold errV
    clear h he hc hown hlen hfit hst ho
    go_enter Tryd.func21, Tryd.ntmps21
    go_wp2_with (go_at_call 14; refine hoff.mono ?_; rintro r w2 ⟨rfl, rfl⟩)
    go_ret
    exact ⟨rfl, G, HD.out, Turn.refl _ _, .inl ⟨by decide, .inl rfl⟩, fun k hk => .inl hk⟩

theorem SyncNames_any {w : World} {D : Nat} {G : DiskG} {E : Nat → Addr} (h : DiskAt w D G) (he : Env w E) (hc : G.crash < 4611686018427387904) (hown : ∀ k, k < 8 → ¬ G.own D k) (hlen : G.steps.length < 1099511627776)
    (hfit : ∀ j (hj : j < G.steps.length) gm, AppAll (G.nsteps.take j) G.gd gm → Fits (G.steps[j]'hj).s gm) :
    Calls Tryd.prog 10 #[.pointer (some ⟨D, 0, none⟩)] w fun r w' =>
      ∃ v G', r = .returned v ∧ ErrAt w' E v (syncNamesCode G) "names".toUTF8 ByteArray.empty ∧ DiskAt w' D G' ∧ Turn (G.own D) w w' ∧ SyncedNames G (syncNamesCode G) G' ∧ (∀ k, G'.own D k → G.own D k ∨ w.heap.size ≤ k) := by
  have h1 := syncNames_any h he hc hown hlen hfit
  have h2 := fun W => refused_err ⟨#[110, 97, 109, 101, 115]⟩ ⟨#[]⟩ E (syncNamesCode G) W
  have H1 := Lib.hid h1
  have H2 := Lib.hid h2
  clear h he hc hown hlen hfit h1 h2
  go_enter Tryd.func10, Tryd.ntmps10
  go_wp2_with (first
    | (go_at_call 21; ((with_reducible refine H1.out.mono ?_); rintro r w2 ⟨rfl, G', hd, ht, hcr, hnew⟩))
    | (go_at_call 16; ((with_reducible refine (H2.out _).mono ?_); rintro r w3 ⟨v, rfl, hv, hb⟩)))
  go_ret
  exact ⟨_, G', rfl, hv, hd.below hb, ht.trans (Turn.of_below hb : Turn (fun _ => False) _ _) (fun _ _ h => h.elim), hcr, hnew⟩

end Go.Proofs.YtanbmlikfhcpoaaDoor.Disk
