/-
  A names step is made on the current tree, and kept: the contract of change. Own text.
-/
import Derived.Test.YtanbmlikfhcpoaaDoorDErr
namespace Go.Proofs.YtanbmlikfhcpoaaDoor.Disk
open Go.RowKit Go Go.Proofs.YtanbmlikfhcpoaaDoor.Base Go.Proofs.YtanbmlikfhcpoaaDoor.Map

theorem Parts.with {w : World} {G G' : DiskG} (h : Parts w G) (h1 : G'.gc = G.gc) (h2 : G'.gd = G.gd) (h3 : G'.ptr = G.ptr) (h4 : G'.pfs = G.pfs) (h5 : G'.bvs = G.bvs) (h6 : G'.svs = G.svs) (h7 : G'.steps = G.steps) (h8 : G'.nv = G.nv) : Parts w G' := by
  cases G; cases G'
  simp only at h1 h2 h3 h4 h5 h6 h7 h8
  subst h1 h2 h3 h4 h5 h6 h7 h8
  exact ⟨h.cur, h.dur, h.trees, h.row, h.steps, h.files, h.inj, h.bytes, h.rows⟩

theorem Parts.ticked {w : World} {G : DiskG} (h : Parts w G) : Parts w (ticked G) := by
  unfold Disk.ticked; split <;> exact h.with rfl rfl rfl rfl rfl rfl rfl rfl

/-- the current tree was written -/
theorem DiskAt.wrote {w w' : World} {D : Nat} {G : DiskG} {g' : TreeG} (h : DiskAt w D G) (hw : Wrote w w' G.ptr D 0 G.cells 46 G.gc g') : DiskAt w' D { G with gc := g' } := by
  obtain ⟨n1, n2, n3, n4, n5⟩ := h.parts.notD h.kind
  have hgd : ∀ b ∈ G.gd.blocks, ¬ (b = D ∨ b ∈ G.gc.blocks) := fun b hb hh => by
    rcases hh with hh | hh
    · exact n2 b hb hh
    · exact h.parts.trees b hh hb
  refine ⟨?_, ⟨hw.tree, h.parts.dur.of_heap fun b hb => hw.turn.block b (h.parts.dur.lt b hb) (hgd b hb), fun b hb hb2 => ?_, ?_, fun x hx => ?_, fun i hi => ?_, h.parts.inj, h.parts.bytes, h.parts.rows⟩⟩
  · rw [hw.holds]; rfl
  · rcases hw.new b hb with h1 | h1
    · exact h.parts.trees b h1 hb2
    · have := h.parts.dur.lt b hb2; omega
  · refine row_turn h.parts.row hw.turn fun k hk hh => ?_
    rcases hh with hh | hh
    · exact n3 k hk hh
    · exact (row_kind h.parts.row hk).noMap (h.parts.cur.maps k hh)
  · refine (h.parts.steps x hx).of_heap fun b hb => hw.turn.block b ((h.parts.steps x hx).lt b hb) fun hh => ?_
    rcases hh with hh | hh
    · exact n4 x hx b hb hh
    · rcases (h.parts.steps x hx).kinds b hb with h1 | h1 <;> exact h1.noMap (h.parts.cur.maps b hh)
  · refine (h.parts.files i hi).turn hw.turn fun k hk hh => ?_
    rcases hh with hh | hh
    · exact n5 i hi k hk hh
    · rcases (h.parts.files i hi).kinds hk with h1 | h1 | h1 <;> exact h1.noMap (h.parts.cur.maps k hh)

theorem step_info1 : (Tryd.prog.info? 74).map (fun i => (i.zero, i.size, i.bytes)) = some (some (.agg #[.nilFunc]), 1, 8) := by kernel_rfl

/-- a names step is kept -/
theorem append_name (w : World) (nv : Value) (xs : List Value) (n : Nat) (hown : w.ownsRow 0 74 1 nv n xs) (v : Value) (h1 : v.oneCell' = true) (b : Nat) (hb : w.heap[b]? = some (.cells #[v] 74)) (hl : n < 1099511627776) :
    ∃ v' w', (Builtin.append_ #[44, 44] 44 #[nv, .slice (some ⟨b, 0, none⟩) 1 1]).run Tryd.prog w = .ok v' w' ∧ w'.ownsRow 0 74 1 v' (n + 1) (xs ++ [v]) ∧ w.grownBy w' nv.ownBlock ∧ (v'.ownBlock = nv.ownBlock ∨ v'.ownBlock = some w.heap.size) := by
  obtain ⟨i0, hi, hz0, hz1, hz2⟩ := info_parts step_info1
  have hsrc : Src Tryd.prog 1 44 (.slice (some ⟨b, 0, none⟩) 1 1) 1 [v] w := by
    refine Src.ofSlice w Tryd.underlying44 _ 1 1 _ rfl ?_ ?_
    · intro j u hu
      rw [Go.WideShapes.add_plain, cell_of_row w b _ _ _ _ hb]
      simpa using hu
    · intro u hu
      simp at hu; subst hu; exact h1
  obtain ⟨v', w', h1, h2, h3, h4⟩ := Row.append_src (P := Tryd.prog) w 44 44 44 74 i0 _ 1 8 Tryd.underlying44 hi hz0 hz1 hz2 rfl (by decide) nv n _ hown _ 1 _ hsrc (by unfold maxLen; omega) (by omega)
  exact ⟨v', w', h1, h2, h3, h4⟩

/-- the names' row was written, and stored -/
theorem DiskAt.named {w w' : World} {D : Nat} {G : DiskG} (h : DiskAt w D G) {x : StepG} {nv' : Value} (ht : Turn (fun k => G.nv.ownBlock = some k) w w') (hr : w'.ownsRow 0 74 1 nv' (G.steps.length + 1) (G.steps.map (·.v) ++ [x.v])) (hx : StepAt w G.ptr x.v x.bs x.s)
 : DiskAt (w'.setCell ⟨D, 2, none⟩ nv') D { G with steps := G.steps ++ [x], nv := nv' } ∧ w'.cell? ⟨D, 2, none⟩ = some G.nv ∧ w'.frozen? ⟨D, 2, none⟩ = false := by
  obtain ⟨n1, n2, n3, n4, n5⟩ := h.parts.notD h.kind
  have hD : w'.heap[D]? = w.heap[D]? := ht.block D h.lt fun hh => n3 D hh rfl
  have hc : w'.heap[D]? = some (.cells G.cells 46) := hD.trans h.block
  have hkD : isK w' D 46 := ⟨_, _, hc⟩
  have hxk : ∀ b ∈ x.bs, ¬ G.nv.ownBlock = some b := fun b hb hh => by
    rcases hx.kinds b hb with h1 | h1 <;> exact h1.ne (row_kind h.parts.row hh) (by decide) rfl
  have hp : Parts w' { G with steps := G.steps ++ [x], nv := nv' } := by
    refine ⟨h.parts.cur.of_heap fun b hb => ht.block b (h.parts.cur.lt b hb) fun hh => (row_kind h.parts.row hh).noMap (h.parts.cur.maps b hb), h.parts.dur.of_heap fun b hb => ht.block b (h.parts.dur.lt b hb) fun hh => (row_kind h.parts.row hh).noMap (h.parts.dur.maps b hb), h.parts.trees, ?_, ?_, fun i hi => ?_, h.parts.inj, h.parts.bytes, h.parts.rows⟩
    · simp only [List.length_append, List.length_cons, List.length_nil, List.map_append, List.map_cons, List.map_nil]
      exact hr
    · intro y hy
      rcases List.mem_append.1 hy with hy | hy
      · refine (h.parts.steps y hy).of_heap fun b hb => ht.block b ((h.parts.steps y hy).lt b hb) fun hh => ?_
        rcases (h.parts.steps y hy).kinds b hb with h1 | h1 <;> exact h1.ne (row_kind h.parts.row hh) (by decide) rfl
      · simp at hy
        subst hy
        exact hx.of_heap fun b hb => ht.block b (hx.lt b hb) (hxk b hb)
    · refine (h.parts.files i hi).turn ht fun k hk hh => ?_
      rcases (h.parts.files i hi).kinds hk with h1 | h1 | h1 <;> exact h1.ne (row_kind h.parts.row hh) (by decide) rfl
  refine ⟨⟨?_, hp.set hkD 2 nv'⟩, ?_, ?_⟩
  · rw [heap_setCell_same w' D 2 G.cells _ nv' hc]; rfl
  · rw [World.cell?_of_block (w := w) hD]; exact h.cell 2
  · rw [World.frozen?_of_block (w := w) hD]; exact h.fro 2

/-- a disk behind a names step -/
structure Changed (w w' : World) (D : Nat) (G : DiskG) (s : NStep) (G' : DiskG) : Prop where
  disk : DiskAt w' D G'
  turn : Turn (G.own D) w w'
  tree : Applied s G.gc G'.gc
  step : ∃ v bs, G'.steps = G.steps ++ [⟨s, v, bs⟩]
  rest : G'.gd = G.gd ∧ G'.ptr = G.ptr ∧ G'.pfs = G.pfs ∧ G'.bvs = G.bvs ∧ G'.svs = G.svs ∧ G'.cap = G.cap ∧ G'.used = G.used ∧ G'.off = G.off ∧ G'.crash = G.crash - 1
  new : ∀ k, G'.own D k → G.own D k ∨ w.heap.size ≤ k

theorem PutTo.blocks {w : World} {ptr : Nat → Nat} {tb to' : Nat} {cs : Array Value} {e : TypeId} {w' : World} {g g' : TreeG} (h : Wrote w w' ptr tb to' cs e g g') : ∀ b ∈ g'.blocks, b ∈ g.blocks ∨ w.heap.size ≤ b := h.new

set_option maxRecDepth 100000 in
set_option maxHeartbeats 2000000 in
theorem change_any {w : World} {D : Nat} {G : DiskG} {E : Nat → Addr} (h : DiskAt w D G) (he : Env w E) (hc : G.crash < 4611686018427387904) (hown : ∀ k, k < 8 → ¬ G.own D k) (hlen : G.steps.length < 1099511627776)
    {v : Value} {bs : List Nat} {s : NStep} (hs : StepAt w G.ptr v bs s) (hf : Fits s G.gc) (hbs : ∀ b ∈ bs, b ≠ D ∧ b ∉ G.gc.blocks) :
    Calls Tryd.prog 34 #[.pointer (some ⟨D, 0, none⟩), v] w fun r w' =>
      (G.crash = 1 ∧ r = .returned (errV E 1) ∧ DiskAt w' D { G with off := true } ∧ Turn (fun k => k = D) w w') ∨
      (G.crash ≠ 1 ∧ r = .returned (errV E 0) ∧ ∃ G', DiskAt w' D G' ∧ Turn (G.own D) w w' ∧ Applied s G.gc G'.gc ∧ G'.steps = G.steps ++ [⟨s, v, bs⟩] ∧
        (G'.gd = G.gd ∧ G'.ptr = G.ptr ∧ G'.pfs = G.pfs ∧ G'.bvs = G.bvs ∧ G'.svs = G.svs ∧ G'.cap = G.cap ∧ G'.used = G.used ∧ G'.off = G.off ∧ G'.crash = G.crash - 1) ∧
        (∀ b ∈ G'.gc.blocks, b ∈ G.gc.blocks ∨ w.heap.size ≤ b) ∧ (G'.nv.ownBlock = G.nv.ownBlock ∨ ∃ k, G'.nv.ownBlock = some k ∧ w.heap.size ≤ k)) := by
  have hst := step_any h he hc
  have HD := Lib.hid h
  have HE := Lib.hid he
  by_cases h1 : G.crash = 1
  · have hst1 : Calls Tryd.prog 41 #[.pointer (some ⟨D, 0, none⟩)] w fun e w' => e = .returned (errV E 1) ∧ DiskAt w' D { G with off := true } ∧ Turn (fun k => k = D) w w' := by
      refine hst.mono fun e w' hh => ?_
      unfold stepCode ticked at hh
      rw [if_pos h1, if_pos h1] at hh
      exact hh
    unfold errV at hst1 ⊢
    have H1 := Lib.hid h1
    have HS := Lib.hid hst1
    have hvv : ∃ gf lb, v = .func (.func gf) #[] lb := by
      obtain ⟨gf, lb, hv, _⟩ := step_applies hs h.parts.cur D 0 G.cells 46 ⟨h.block, rfl⟩ hf he.max
      exact ⟨gf, lb, hv⟩
    obtain ⟨gf, lb, rfl⟩ := hvv
    clear h he hc hst hst1 h1 hs hf
    go_enter Tryd.func34, Tryd.ntmps34
    go_wp2_with (go_at_call 41; ((with_reducible refine HS.out.mono ?_); rintro r w2 ⟨rfl, hd2, ht2⟩))
    go_ret
    exact .inl ⟨H1.out, rfl, hd2, ht2⟩
  · have hst1 : Calls Tryd.prog 41 #[.pointer (some ⟨D, 0, none⟩)] w fun e w' => e = .returned .nilIface ∧ DiskAt w' D { G with crash := G.crash - 1 } ∧ Turn (fun k => k = D) w w' := by
      refine hst.mono fun e w' hh => ?_
      unfold stepCode ticked at hh
      rw [if_neg h1, if_neg h1] at hh
      exact hh
    have H1 := Lib.hid h1
    have HS := Lib.hid hst1
    have HF := Lib.hid hf
    -- the closure, whatever the step has left
    have hcl : ∀ w2, DiskAt w2 D { G with crash := G.crash - 1 } → Turn (fun k => k = D) w w2 → ∃ gf lb, v = .func (.func gf) #[] lb ∧ (∀ args w, (callFunc gf args).run Tryd.prog w = .ok (.enter gf args) w) ∧
        Calls Tryd.prog gf (#[.pointer (some ⟨D, 0, none⟩)] ++ lb) w2 fun r w' => r = .returned (.tuple #[]) ∧ ∃ g', Applied s G.gc g' ∧ Wrote w2 w' G.ptr D 0 (DiskG.cells { G with crash := G.crash - 1 }) 46 G.gc g' := fun w2 hd2 ht2 =>
      step_applies (hs.of_heap fun b hb => ht2.block b (hs.lt b hb) (hbs b hb).1) hd2.parts.cur D 0 _ 46 ⟨hd2.block, rfl⟩ hf (he.turn ht2 (fun k hk hh => hown k hk (.inl hh))).max
    have hvv : ∃ gf lb, v = .func (.func gf) #[] lb ∧ (∀ args w, (callFunc gf args).run Tryd.prog w = .ok (.enter gf args) w) := by
      obtain ⟨gf, lb, hv, hen, _⟩ := step_applies hs h.parts.cur D 0 G.cells 46 ⟨h.block, rfl⟩ hf he.max
      exact ⟨gf, lb, hv, hen⟩
    obtain ⟨gf, lb, rfl, hen⟩ := hvv
    have hcl2 : ∀ w2, DiskAt w2 D { G with crash := G.crash - 1 } → Turn (fun k => k = D) w w2 → Calls Tryd.prog gf (#[.pointer (some ⟨D, 0, none⟩)] ++ lb) w2 fun r w' => r = .returned (.tuple #[]) ∧ ∃ g', Applied s G.gc g' ∧ Wrote w2 w' G.ptr D 0 (DiskG.cells { G with crash := G.crash - 1 }) 46 G.gc g' := fun w2 hd2 ht2 => by
      obtain ⟨gf', lb', hv, _, hc'⟩ := hcl w2 hd2 ht2
      injection hv with hv1 hv2 hv3
      injection hv1 with hv1
      subst hv1 hv3
      exact hc'
    have HCL := Lib.hid hcl2
    have HSt := Lib.hid hs
    have HBS := Lib.hid hbs
    clear h he hc hst hst1 h1 hs hf hcl hcl2 hbs
    unfold errV
    go_enter Tryd.func34, Tryd.ntmps34
    go_wp2_with (first
      | (go_at_call 41; ((with_reducible refine HS.out.mono ?_); rintro r w2 ⟨rfl, hd2, ht2⟩))
      | (go_at_fn gf; ((with_reducible refine (HCL.out _ hd2 ht2).mono ?_); rintro r w3 ⟨rfl, g', hap, hw3⟩; have hd3 := hd2.wrote hw3; have k2 : w3.cell? ⟨D, 2, none⟩ = some G.nv := hd3.cell 2; have hda := hd3.below (below_alloc w3 (.cells #[.func (.func gf) #[] lb] 74)); obtain ⟨v', w4, hrun, hrow, hg, hloc⟩ := append_name (w3.alloc (.cells #[.func (.func gf) #[] lb] 74)) G.nv _ G.steps.length hda.parts.row (.func (.func gf) #[] lb) rfl w3.heap.size (heap_alloc_new _ _) hlen; have hsa : StepAt (w3.alloc (.cells #[.func (.func gf) #[] lb] 74)) G.ptr (.func (.func gf) #[] lb) bs s := HSt.out.of_heap (fun b hb => by (have hlt := HSt.out.lt b hb; have hlt2 := ht2.size; have hlt3 := hw3.turn.size; rw [heap_alloc_old _ _ (by omega), hw3.turn.block b (by omega) (fun hh => by rcases hh with hh | hh; exact (HBS.out b hb).1 hh; exact (HBS.out b hb).2 hh), ht2.block b hlt (HBS.out b hb).1])); obtain ⟨e1, e2, e3⟩ := hda.named (x := ⟨s, .func (.func gf) #[] lb, bs⟩) (Turn.of_grown hg (fun k hk => hk)) hrow hsa; obtain ⟨va, vc, rfl, _⟩ := row_len hrow; have HRun := Lib.hid hrun; have HE1 := Lib.hid e1; have HG := Lib.hid hg; have HW3 := Lib.hid hw3; have HT2 := Lib.hid ht2; have HDA := Lib.hid hda; clear hrun e1 hg hda hsa hrow hd3 hw3))
      | (at_builtin; refine Row.append_by rfl (.tmp 20) (.tmp 23) _ rfl _ _ rfl rfl HRun.out ?_))
    go_ret
    have hs2 := HT2.out.size
    have hs3 := HW3.out.turn.size
    refine .inr ⟨H1.out, rfl, _, HE1.out, ?_, hap, rfl, ⟨rfl, rfl, rfl, rfl, rfl, rfl, rfl, rfl, rfl⟩, ?_, ?_⟩
    · have t1 : Turn (G.own D) w w2 := HT2.out.mono (fun i _ hh => .inl hh)
      have t2 : Turn (G.own D) w2 w3 := HW3.out.turn.mono (fun i _ hh => by rcases hh with hh | hh; exact .inl hh; exact .inr (.inl hh))
      have t3 : Turn (G.own D) w3 (w3.alloc (.cells #[.func (.func gf) #[] lb] 74)) := (Turn.refl _ _).alloc _
      have t4 : Turn (G.own D) (w3.alloc (.cells #[.func (.func gf) #[] lb] 74)) w4 := Turn.of_grown HG.out (fun k hk => .inr (.inr (.inr (.inl hk))))
      exact (((t1.trans t2 (fun _ _ h => h)).trans t3 (fun _ _ h => h)).trans t4 (fun _ _ h => h)).set _ _ (fun _ => .inl rfl)
    · intro b hb
      rcases HW3.out.new b hb with h | h
      · exact .inl h
      · exact .inr (by omega)
    · rcases hloc with h | h
      · exact .inl h
      · refine .inr ⟨_, h, ?_⟩
        simp
        omega

end Go.Proofs.YtanbmlikfhcpoaaDoor.Disk
