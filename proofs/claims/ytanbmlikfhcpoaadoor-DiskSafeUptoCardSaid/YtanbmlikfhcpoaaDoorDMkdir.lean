/-
  A directory is made: contracts of mkdir, Mkdir. Own text.
-/
import Derived.Test.YtanbmlikfhcpoaaDoorDFiled
namespace Go.Proofs.YtanbmlikfhcpoaaDoor.Disk
open Go.RowKit Go Go.Proofs.YtanbmlikfhcpoaaDoor.Base Go.Proofs.YtanbmlikfhcpoaaDoor.Map

theorem quiet_zero {P : Program} {f : FuncId} {args : Array Value} {w : World} {a : Nat} {v : Value} (h : Calls P f args (w.drewN a) fun e w' => e = .returned v ∧ ∃ m, w' = (w.drewN a).drewN m) :
    Calls P f args (w.drewN a) fun e w'' => e = .returned v ∧ ∃ m, w'' = w.drewN m :=
  h.mono fun _ _ ⟨he, m, hm⟩ => ⟨he, a + m, by rw [hm, World.drewN_drewN]⟩

def mkdirCode (G : DiskG) (d : ByteArray) : Nat :=
  if G.off then 1 else if isName d = false then 2 else if existsG G.gc d = true then 5 else if G.crash = 1 then 1 else 0
/-- the disk behind mkdir -/
def Mkdired (G : DiskG) (d : ByteArray) (c : Nat) (G' : DiskG) : Prop :=
  (c ≠ 0 ∧ (G' = G ∨ (G.crash = 1 ∧ G' = { G with off := true }))) ∨
  (c = 0 ∧ ∃ fm b v bs, G'.gc = ⟨some fm, G.gc.ds ++ [⟨d, b, []⟩]⟩ ∧ G'.steps = G.steps ++ [⟨⟨1, d, ByteArray.empty, 0⟩, v, bs⟩] ∧
    G'.gd = G.gd ∧ G'.ptr = G.ptr ∧ G'.pfs = G.pfs ∧ G'.bvs = G.bvs ∧ G'.svs = G.svs ∧ G'.cap = G.cap ∧ G'.used = G.used ∧ G'.off = G.off ∧ G'.crash = G.crash - 1)

theorem mkdir_step {w : World} {D : Nat} {G : DiskG} {E : Nat → Addr} (h : DiskAt w D G) (he : Env w E) (hc : G.crash < 4611686018427387904) (hown : ∀ k, k < 8 → ¬ G.own D k) (hlen : G.steps.length < 1099511627776) (d : ByteArray) (hd : d.size < 4294967281) (hx : existsG G.gc d = false) (N : Nat) :
    Calls Tryd.prog 34 #[.pointer (some ⟨D, 0, none⟩), .func (.func 35) #[] #[.pointer (some ⟨w.heap.size, 0, none⟩)]] ((w.alloc (.cells #[.string d] 9)).drewN N) fun r w' =>
      r = .returned (errV E (if G.crash = 1 then 1 else 0)) ∧ ∃ G', DiskAt w' D G' ∧ Turn (G.own D) w w' ∧ Mkdired G d (if G.crash = 1 then 1 else 0) G' ∧ (∀ k, G'.own D k → G.own D k ∨ w.heap.size ≤ k) := by
  have hB : Below w.heap.size w ((w.alloc (.cells #[.string d] 9)).drewN N) := (below_alloc w _).drewN N
  have h4 := h.below hB
  have he4 : Env ((w.alloc (.cells #[.string d] 9)).drewN N) E := he.turn (Turn.of_below (S := fun _ => False) hB) (fun _ _ h => h)
  have z1 : ((w.alloc (.cells #[.string d] 9)).drewN N).heap[w.heap.size]? = some (.cells #[.string d] 9) := heap_alloc_new w _
  have hst : StepAt ((w.alloc (.cells #[.string d] 9)).drewN N) G.ptr (.func (.func 35) #[] #[lbox w.heap.size]) [w.heap.size] ⟨1, d, ByteArray.empty, 0⟩ := .inl ⟨_, rfl, rfl, rfl, z1⟩
  have hl : lookDir G.gc d = none := by
    unfold existsG isFolderG at hx
    cases hh : lookDir G.gc d with
    | none => rfl
    | some x => rw [hh] at hx; simp at hx
  have hlt := fun k => Parts.own_lt h k
  have hch := change_any h4 he4 hc hown hlen hst ⟨fun _ => hl, hd, (by show ByteArray.empty.size < 4294967281; decide)⟩ (fun b hb => by
    have hDl := h.lt
    simp at hb
    refine ⟨by omega, fun hb2 => ?_⟩
    have := h.parts.cur.lt b hb2
    omega)
  refine hch.mono fun r w' hh => ?_
  have hs4 := hB.size
  have turn : ∀ {S : Nat → Prop} {a : World}, Turn S ((w.alloc (.cells #[.string d] 9)).drewN N) a → (∀ k, k < w.heap.size → S k → G.own D k) → Turn (G.own D) w a := fun {S a} ht hS => (Turn.of_below hB).trans ht hS
  rcases hh with ⟨c1, rfl, hd, ht⟩ | ⟨c1, rfl, G', hd, ht, hap, hst', hrest, hbl, hnv⟩
  · rw [if_pos c1]
    exact ⟨rfl, { G with off := true }, hd, turn ht (fun k _ hk => .inl hk), .inl ⟨by decide, .inr ⟨c1, rfl⟩⟩, fun k hk => .inl hk⟩
  · rw [if_neg c1]
    obtain ⟨r1, r2, r3, r4, r5, r6, r7, r8, r9⟩ := hrest
    have hap2 : ∃ fm b, G'.gc = ⟨some fm, G.gc.ds ++ [⟨d, b, []⟩]⟩ := by
      rcases hap with ⟨_, fm, b, e⟩ | ⟨hk, _⟩
      · exact ⟨fm, b, e⟩
      · cases hk
    obtain ⟨fm, b, hgc⟩ := hap2
    refine ⟨rfl, G', hd, turn ht (fun k _ hh => hh), .inr ⟨rfl, fm, b, _, _, hgc, hst', r1, r2, r3, r4, r5, r6, r7, r8, r9⟩, fun k hk => ?_⟩
    rcases hk with hk | hk | hk | hk | ⟨x, hx, hk⟩ | hk
    · exact .inl (.inl hk)
    · rcases hbl k hk with h1 | h1
      · exact .inl (.inr (.inl h1))
      · exact .inr (by omega)
    · rw [r1] at hk; exact .inl (.inr (.inr (.inl hk)))
    · rcases hnv with h1 | ⟨j, h1, h2⟩
      · rw [h1] at hk; exact .inl (.inr (.inr (.inr (.inl hk))))
      · rw [h1] at hk; injection hk with hk; exact .inr (by omega)
    · rw [hst'] at hx
      rcases List.mem_append.1 hx with hx | hx
      · exact .inl (.inr (.inr (.inr (.inr (.inl ⟨x, hx, hk⟩)))))
      · simp at hx
        subst hx
        simp at hk
        exact .inr (by omega)
    · rw [r2, r3, r4, r5] at hk
      exact .inl (.inr (.inr (.inr (.inr (.inr hk)))))

set_option maxRecDepth 100000 in
set_option maxHeartbeats 4000000 in
theorem mkdir_any {w : World} {D : Nat} {G : DiskG} {E : Nat → Addr} (h : DiskAt w D G) (he : Env w E) (hc : G.crash < 4611686018427387904) (hown : ∀ k, k < 8 → ¬ G.own D k) (hlen : G.steps.length < 1099511627776) (d : ByteArray) (hd : d.size < 4294967281) :
    Calls Tryd.prog 17 #[.pointer (some ⟨D, 0, none⟩), .string d] w fun r w' =>
      r = .returned (errV E (mkdirCode G d)) ∧ ∃ G', DiskAt w' D G' ∧ Turn (G.own D) w w' ∧ Mkdired G d (mkdirCode G d) G' ∧ (∀ k, G'.own D k → G.own D k ∨ w.heap.size ≤ k) := by
  have hbel : Below w.heap.size w (w.alloc (.cells #[.string d] 9)) := below_alloc _ _
  have h1 := h.below hbel
  have he1 : Env (w.alloc (.cells #[.string d] 9)) E := he.turn (Turn.of_below (S := fun _ => False) hbel) (fun _ _ h => h)
  have hoff := off_any h1
  obtain ⟨_, _, _, l4, _⟩ := looks h1 he1.max d hd
  have l1 := fun W => isName_any d (by omega) W
  have g0 := he1.off
  have g1 := he1.name
  have g4 := he1.exists'
  have hcs := fun hx N => mkdir_step h he hc hown hlen d hd hx N
  obtain ⟨cc, hcc⟩ : ∃ cc : Nat, (if G.crash = 1 then 1 else 0) = cc := ⟨_, rfl⟩
  simp only [hcc] at hcs
  have HCC := Lib.hid hcc
  have HCS := Lib.hid hcs
  have H1 := Lib.hid h1
  have HB := Lib.hid hbel
  unfold mkdirCode
  clear h he he1 hc hown hlen h1 hbel hd hcs hcc
  cases ho : G.off
  · rw [ho] at hoff
    rw [if_neg (by decide)]
    have L1 := Lib.hid l1
    have L4 := Lib.hid l4
    clear l1 l4
    cases hP : isName d
    · rw [if_pos rfl]
      rw [hP] at L1
      unfold errV at g1 ⊢
      go_enter Tryd.func17, Tryd.ntmps17
      go_wp2_with (first | (go_at_call 14; refine hoff.mono ?_; rintro r w2 ⟨rfl, rfl⟩) | (go_at_call 30; ((with_reducible refine (L1.out _).mono ?_); rintro r w2 ⟨rfl, rfl⟩)))
      go_ret
      exact ⟨rfl, G, H1.out, Turn.of_below HB.out, .inl ⟨by decide, .inl rfl⟩, fun k hk => .inl hk⟩
    · rw [if_neg (by decide)]
      rw [hP] at L1
      cases hX : existsG G.gc d
      · rw [if_neg (by decide)]
        rw [hX] at L4
        rw [HCC.out]
        have HCS2 := Lib.hid (HCS.out hX)
        go_enter Tryd.func17, Tryd.ntmps17
        go_wp2_with (first | (go_at_call 14; refine hoff.mono ?_; rintro r w2 ⟨rfl, rfl⟩) | (go_at_call 30; ((with_reducible refine (L1.out _).mono ?_); rintro r w2 ⟨rfl, rfl⟩)))
        go_quiet (first | exact quiet_zero (L4.out _ (by rfl)) | exact quiet_plus (L4.out _ (by rfl)))
        go_wp2_with (go_at_call 34; ((with_reducible refine (HCS2.out _).mono ?_); rintro r w2 ⟨rfl, G', hG⟩))
        go_ret
        exact ⟨rfl, G', hG⟩
      · rw [if_pos rfl]
        rw [hX] at L4
        unfold errV at g4 ⊢
        go_enter Tryd.func17, Tryd.ntmps17
        go_wp2_with (first | (go_at_call 14; refine hoff.mono ?_; rintro r w2 ⟨rfl, rfl⟩) | (go_at_call 30; ((with_reducible refine (L1.out _).mono ?_); rintro r w2 ⟨rfl, rfl⟩)))
        go_quiet (first | exact quiet_zero (L4.out _ (by rfl)) | exact quiet_plus (L4.out _ (by rfl)))
        go_wp2
        go_ret
        exact ⟨rfl, G, H1.out.below ((Below.refl _ _).drewN _), Turn.of_below (HB.out.drewN _), .inl ⟨by decide, .inl rfl⟩, fun k hk => .inl hk⟩
  · rw [ho] at hoff
    rw [if_pos rfl]
    unfold errV at g0 ⊢
    clear l1 l4
    go_enter Tryd.func17, Tryd.ntmps17
    go_wp2_with (go_at_call 14; refine hoff.mono ?_; rintro r w2 ⟨rfl, rfl⟩)
    go_ret
    exact ⟨rfl, G, H1.out, Turn.of_below HB.out, .inl ⟨by decide, .inl rfl⟩, fun k hk => .inl hk⟩

theorem Mkdir_any {w : World} {D : Nat} {G : DiskG} {E : Nat → Addr} (h : DiskAt w D G) (he : Env w E) (hc : G.crash < 4611686018427387904) (hown : ∀ k, k < 8 → ¬ G.own D k) (hlen : G.steps.length < 1099511627776) (d : ByteArray) (hd : d.size < 4294967281) :
    Calls Tryd.prog 6 #[.pointer (some ⟨D, 0, none⟩), .string d] w fun r w' =>
      ∃ v G', r = .returned v ∧ ErrAt w' E v (mkdirCode G d) "mkdir".toUTF8 d ∧ DiskAt w' D G' ∧ Turn (G.own D) w w' ∧ Mkdired G d (mkdirCode G d) G' ∧ (∀ k, G'.own D k → G.own D k ∨ w.heap.size ≤ k) := by
  have h1 := mkdir_any h he hc hown hlen d hd
  have h2 := fun W => refused_err ⟨#[109, 107, 100, 105, 114]⟩ d E (mkdirCode G d) W
  have H1 := Lib.hid h1
  have H2 := Lib.hid h2
  clear h he hc hown hlen hd h1 h2
  go_enter Tryd.func6, Tryd.ntmps6
  go_wp2_with (first
    | (go_at_call 17; ((with_reducible refine H1.out.mono ?_); rintro r w2 ⟨rfl, G', hd, ht, hcr, hnew⟩))
    | (go_at_call 16; ((with_reducible refine (H2.out _).mono ?_); rintro r w3 ⟨v, rfl, hv, hb⟩)))
  go_ret
  exact ⟨_, G', rfl, hv, hd.below hb, ht.trans (Turn.of_below hb : Turn (fun _ => False) _ _) (fun _ _ h => h.elim), hcr, hnew⟩

end Go.Proofs.YtanbmlikfhcpoaaDoor.Disk
