/-
  The texts DMkdir, DCut, joined. Own text.
-/
import Derived.Test.YtmmlefbokplnnaaGreatDoorJ13
import Derived.Test.YtmmlefbokplnnaaGreatDoorJ14
import Derived.Test.YtmmlefbokplnnaaGreatDoorJ08
set_option linter.unusedVariables false
set_option linter.unusedSimpArgs false
namespace Go.Proofs.YtmmlefbokplnnaaGreatDoor.Disk
open Go.RowKit Go Go.Proofs.YtmmlefbokplnnaaGreatDoor.Base Go.Proofs.YtmmlefbokplnnaaGreatDoor.Map

theorem quiet_zero {P : Program} {f : FuncId} {args : Array Value} {w : World} {a : Nat} {v : Value} (h : Calls P f args (w.drewN a) fun e w' => e = .returned v ∧ ∃ m, w' = (w.drewN a).drewN m) :
    Calls P f args (w.drewN a) fun e w'' => e = .returned v ∧ ∃ m, w'' = w.drewN m :=
  h.mono fun _ _ ⟨he, m, hm⟩ => ⟨he, a + m, by rw [hm, World.drewN_drewN]⟩

def mkdirCode (G : DiskG) (d : ByteArray) : Nat :=
  if G.off then 1 else if isName d = false then 2 else if existsG G.gc d = true then 5 else if G.crash = 1 then 1 else 0
/-- the disk behind mkdir -/
def Mkdired (G : DiskG) (d : ByteArray) (c : Nat) (G' : DiskG) : Prop :=
  (c ≠ 0 ∧ Refused G c G') ∨
  (c = 0 ∧ ∃ fm b v bs, G'.gc = ⟨some fm, G.gc.ds ++ [⟨d, b, []⟩]⟩ ∧ G'.steps = G.steps ++ [⟨⟨1, d, ByteArray.empty, 0⟩, v, bs⟩] ∧
    G'.gd = G.gd ∧ G'.ptr = G.ptr ∧ G'.pfs = G.pfs ∧ G'.bvs = G.bvs ∧ G'.svs = G.svs ∧ G'.cap = G.cap ∧ G'.used = G.used ∧ G'.off = G.off ∧ G'.crash = G.crash - 1)

theorem mkdir_step {w : World} {D : Nat} {G : DiskG} {E : Nat → Addr} (h : DiskAt w D G) (he : Env w E) (hc : G.crash < 9223372036854775808) (hown : ∀ k, k < 8 → ¬ G.own D k) (hlen : G.steps.length < 1099511627776) (d : ByteArray) (hd : d.size < 4294967281) (hx : existsG G.gc d = false) (N : Nat) :
    Calls Tryz.prog 94 #[.pointer (some ⟨D, 0, none⟩), .func (.func 99) #[] #[.pointer (some ⟨w.heap.size, 0, none⟩)]] ((w.alloc (.cells #[.string d] 9)).drewN N) fun r w' =>
      r = .returned (errV E (if G.crash = 1 then 1 else 0)) ∧ ∃ G', DiskAt w' D G' ∧ Turn (G.own D) w w' ∧ Mkdired G d (if G.crash = 1 then 1 else 0) G' ∧ (∀ k, G'.own D k → G.own D k ∨ w.heap.size ≤ k) := by
  have hB : Below w.heap.size w ((w.alloc (.cells #[.string d] 9)).drewN N) := (below_alloc w _).drewN N
  have h4 := h.below hB
  have he4 : Env ((w.alloc (.cells #[.string d] 9)).drewN N) E := he.turn (Turn.of_below (S := fun _ => False) hB) (fun _ _ h => h)
  have z1 : ((w.alloc (.cells #[.string d] 9)).drewN N).heap[w.heap.size]? = some (.cells #[.string d] 9) := heap_alloc_new w _
  have hst : StepAt ((w.alloc (.cells #[.string d] 9)).drewN N) G.ptr (.func (.func 99) #[] #[lbox w.heap.size]) [w.heap.size] ⟨1, d, ByteArray.empty, 0⟩ := .inl ⟨_, rfl, rfl, rfl, z1⟩
  have hl : lookDir G.gc d = none := by
    unfold existsG isFolderG at hx
    cases hh : lookDir G.gc d with
    | none => rfl
    | some x => rw [hh] at hx; simp at hx
  have hlt := fun k => Parts.own_lt h k
  have hch := change_any h4 he4 hc hown hlen hst ⟨fun _ => hl, hd, (by show ByteArray.empty.size < 4294967281; decide), fun hk => (by cases hk)⟩ (fun b hb => by
    have hDl := h.lt
    simp at hb
    refine ⟨by omega, fun hb2 => ?_⟩
    have := h.parts.cur.lt b hb2
    omega)
  refine hch.mono fun r w' hh => ?_
  have hs4 := hB.size
  have turn : ∀ {S : Nat → Prop} {a : World}, Turn S ((w.alloc (.cells #[.string d] 9)).drewN N) a → (∀ k, k < w.heap.size → S k → G.own D k) → Turn (G.own D) w a := fun {S a} ht hS => (Turn.of_below hB).trans ht hS
  rcases hh with ⟨c1, rfl, hd, ht⟩ | ⟨c1, rfl, G', hd, ht, hap, hst', hrest, hbl, hnv⟩
  · rw [if_pos c1]
    exact ⟨rfl, { G with off := true }, hd, turn ht (fun k _ hk => .inl hk), .inl ⟨by decide, .inr ⟨c1, rfl, rfl⟩⟩, fun k hk => .inl hk⟩
  · rw [if_neg c1]
    obtain ⟨r1, r2, r3, r4, r5, r6, r7, r8, r9⟩ := hrest
    have hap2 : ∃ fm b, G'.gc = ⟨some fm, G.gc.ds ++ [⟨d, b, []⟩]⟩ := by
      rcases hap with ⟨_, fm, b, e⟩ | ⟨hk, _⟩ | ⟨hk, _⟩ | ⟨hk, _⟩
      · exact ⟨fm, b, e⟩
      · cases hk
      · cases hk
      · cases hk
    obtain ⟨fm, b, hgc⟩ := hap2
    refine ⟨rfl, G', hd, turn ht (fun k _ hh => hh), .inr ⟨rfl, fm, b, _, _, hgc, hst', r1, r2, r3, r4, r5, r6, r7, r8, r9⟩, fun k hk => ?_⟩
    rcases hk with hk | hk | hk | hk | ⟨x, hx, hk⟩ | hk
    · exact .inl (.inl hk)
    · rcases hbl k hk with h1 | h1
      · exact .inl (.inr (.inl h1))
      · exact .inr (by omega)
    · rw [r1] at hk; exact .inl (.inr (.inr (.inl hk)))
    · rcases hnv with h1 | ⟨j, h1, h2⟩
      · rw [h1] at hk; exact .inl (.inr (.inr (.inr (.inl hk))))
      · rw [h1] at hk; injection hk with hk; exact .inr (by omega)
    · rw [hst'] at hx
      rcases List.mem_append.1 hx with hx | hx
      · exact .inl (.inr (.inr (.inr (.inr (.inl ⟨x, hx, hk⟩)))))
      · simp at hx
        subst hx
        simp at hk
        exact .inr (by omega)
    · rw [r2, r3, r4, r5] at hk
      exact .inl (.inr (.inr (.inr (.inr (.inr hk)))))

set_option maxRecDepth 100000 in
set_option maxHeartbeats 4000000 in
theorem mkdir_any {w : World} {D : Nat} {G : DiskG} {E : Nat → Addr} (h : DiskAt w D G) (he : Env w E) (hc : G.crash < 9223372036854775808) (hown : ∀ k, k < 8 → ¬ G.own D k) (hlen : G.steps.length < 1099511627776) (d : ByteArray) (hd : d.size < 4294967281) :
    Calls Tryz.prog 68 #[.pointer (some ⟨D, 0, none⟩), .string d] w fun r w' =>
      r = .returned (errV E (mkdirCode G d)) ∧ ∃ G', DiskAt w' D G' ∧ Turn (G.own D) w w' ∧ Mkdired G d (mkdirCode G d) G' ∧ (∀ k, G'.own D k → G.own D k ∨ w.heap.size ≤ k) := by
  have hbel : Below w.heap.size w (w.alloc (.cells #[.string d] 9)) := below_alloc _ _
  have h1 := h.below hbel
  have he1 : Env (w.alloc (.cells #[.string d] 9)) E := he.turn (Turn.of_below (S := fun _ => False) hbel) (fun _ _ h => h)
  have hoff := off_any h1
  obtain ⟨_, _, _, l4, _⟩ := looks h1 he1.max d hd
  have l1 := fun W => isName_any d (by omega) W
  have g0 := he1.off
  have g1 := he1.name
  have g4 := he1.exists'
  have hcs := fun hx N => mkdir_step h he hc hown hlen d hd hx N
  obtain ⟨cc, hcc⟩ : ∃ cc : Nat, (if G.crash = 1 then 1 else 0) = cc := ⟨_, rfl⟩
  simp only [hcc] at hcs
  have HCC := Lib.hid hcc
  have HCS := Lib.hid hcs
  have H1 := Lib.hid h1
  have HB := Lib.hid hbel
  unfold mkdirCode
  clear h he he1 hc hown hlen h1 hbel hd hcs hcc
  cases ho : G.off
  · rw [ho] at hoff
    rw [if_neg (by decide)]
    have L1 := Lib.hid l1
    have L4 := Lib.hid l4
    clear l1 l4
    cases hP : isName d
    · rw [if_pos rfl]
      rw [hP] at L1
      unfold errV at g1 ⊢
      go_enter Tryz.func68, Tryz.ntmps68
      go_wp2_with (first | (go_at_call 16; refine hoff.mono ?_; rintro r w2 ⟨rfl, rfl⟩) | (go_at_call 56; ((with_reducible refine (L1.out _).mono ?_); rintro r w2 ⟨rfl, rfl⟩)))
      go_ret
      exact ⟨rfl, G, H1.out, Turn.of_below HB.out, .inl ⟨by decide, .inl ⟨rfl, .inr (by decide)⟩⟩, fun k hk => .inl hk⟩
    · rw [if_neg (by decide)]
      rw [hP] at L1
      cases hX : existsG G.gc d
      · rw [if_neg (by decide)]
        rw [hX] at L4
        rw [HCC.out]
        have HCS2 := Lib.hid (HCS.out hX)
        go_enter Tryz.func68, Tryz.ntmps68
        go_wp2_with (first | (go_at_call 16; refine hoff.mono ?_; rintro r w2 ⟨rfl, rfl⟩) | (go_at_call 56; ((with_reducible refine (L1.out _).mono ?_); rintro r w2 ⟨rfl, rfl⟩)))
        go_quiet (first | exact quiet_zero (L4.out _ (by rfl)) | exact quiet_plus (L4.out _ (by rfl)))
        go_wp2_with (go_at_call 94; ((with_reducible refine (HCS2.out _).mono ?_); rintro r w2 ⟨rfl, G', hG⟩))
        go_ret
        exact ⟨rfl, G', hG⟩
      · rw [if_pos rfl]
        rw [hX] at L4
        unfold errV at g4 ⊢
        go_enter Tryz.func68, Tryz.ntmps68
        go_wp2_with (first | (go_at_call 16; refine hoff.mono ?_; rintro r w2 ⟨rfl, rfl⟩) | (go_at_call 56; ((with_reducible refine (L1.out _).mono ?_); rintro r w2 ⟨rfl, rfl⟩)))
        go_quiet (first | exact quiet_zero (L4.out _ (by rfl)) | exact quiet_plus (L4.out _ (by rfl)))
        go_wp2
        go_ret
        exact ⟨rfl, G, H1.out.below ((Below.refl _ _).drewN _), Turn.of_below (HB.out.drewN _), .inl ⟨by decide, .inl ⟨rfl, .inr (by decide)⟩⟩, fun k hk => .inl hk⟩
  · rw [ho] at hoff
    rw [if_pos rfl]
    unfold errV at g0 ⊢
    have HOF := Lib.hid ho
    clear ho l1 l4
    go_enter Tryz.func68, Tryz.ntmps68
    go_wp2_with (go_at_call 16; refine hoff.mono ?_; rintro r w2 ⟨rfl, rfl⟩)
    go_ret
    exact ⟨rfl, G, H1.out, Turn.of_below HB.out, .inl ⟨by decide, .inl ⟨rfl, .inl HOF.out⟩⟩, fun k hk => .inl hk⟩

theorem Mkdir_any {w : World} {D : Nat} {G : DiskG} {E : Nat → Addr} (h : DiskAt w D G) (he : Env w E) (hc : G.crash < 9223372036854775808) (hown : ∀ k, k < 8 → ¬ G.own D k) (hlen : G.steps.length < 1099511627776) (d : ByteArray) (hd : d.size < 4294967281) :
    Calls Tryz.prog 26 #[.pointer (some ⟨D, 0, none⟩), .string d] w fun r w' =>
      ∃ v G', r = .returned v ∧ ErrAt w' E v (mkdirCode G d) "mkdir".toUTF8 d ∧ DiskAt w' D G' ∧ Turn (G.own D) w w' ∧ Mkdired G d (mkdirCode G d) G' ∧ (∀ k, G'.own D k → G.own D k ∨ w.heap.size ≤ k) := by
  have h1 := mkdir_any h he hc hown hlen d hd
  have h2 := fun W => refused_err ⟨#[109, 107, 100, 105, 114]⟩ d E (mkdirCode G d) W
  have H1 := Lib.hid h1
  have H2 := Lib.hid h2
  clear h he hc hown hlen hd h1 h2
  go_enter Tryz.func26, Tryz.ntmps26
  go_wp2_with (first
    | (go_at_call 68; ((with_reducible refine H1.out.mono ?_); rintro r w2 ⟨rfl, G', hd, ht, hcr, hnew⟩))
    | (go_at_call 55; ((with_reducible refine (H2.out _).mono ?_); rintro r w3 ⟨v, rfl, hv, hb⟩)))
  go_ret
  exact ⟨_, G', rfl, hv, hd.below hb, ht.trans (Turn.of_below hb : Turn (fun _ => False) _ _) (fun _ _ h => h.elim), hcr, hnew⟩

end Go.Proofs.YtmmlefbokplnnaaGreatDoor.Disk

namespace Go.Proofs.YtmmlefbokplnnaaGreatDoor.Disk
open Go.RowKit Go Go.Proofs.YtmmlefbokplnnaaGreatDoor.Base Go.Proofs.YtmmlefbokplnnaaGreatDoor.Map

/-- a tail of a row of bytes, as a text -/
theorem conv_tail {w : World} {g L cap : Nat} {l : List Nat} (h : w.ownsRow 0 5 1 (.slice (some ⟨g, 0, none⟩) L cap) L (u8s l)) (n c m : Nat) (hm : n + m = L) :
    (convert 91 9 (.slice (some ⟨g, n, none⟩) m c)).run Tryz.prog w = .ok (.string (strN (l.drop n))) w := by
  have hlen : l.length = L := by have := h.1; rw [u8s_length] at this; omega
  rw [← strN_of]
  refine run_convert_bytes_arg w 91 5 Tryz.underlying91 Tryz.underlying5 g n m c ((l.drop n).map fun (n : Nat) => (n : Int)) (by simp; omega) ?_ 9 Tryz.underlying9
  intro i hi
  rw [h.cellAt (n + i) (by omega)]
  have h1 : n + i < l.length := by omega
  simp [u8s, List.getD, h1, List.getElem?_drop]

set_option maxRecDepth 100000 in
set_option maxHeartbeats 4000000 in
theorem fileShorten_any (p : PF) (fb : Nat) (bv sv : Value) (w : World) (h : FileAt w fb bv sv p) (n : Nat) (hn : n ≤ p.bytes.length) (hb : p.bytes.length < 1099511627776) (hl : p.steps.length < 1099511627776) :
    Calls Tryz.prog 101 #[.pointer (some ⟨fb, 0, none⟩), .int .i64 (n : Int)] w fun e w' =>
    e = .returned (.tuple #[]) ∧ ∃ bv' sv', FileAt w' fb bv' sv' (p.cutTo n) ∧ Turn (fileOwn fb bv sv) w w' ∧ bv'.ownBlock = bv.ownBlock ∧ (sv'.ownBlock = sv.ownBlock ∨ ∃ k, sv'.ownBlock = some k ∧ w.heap.size ≤ k) := by
  obtain ⟨bs, l⟩ := p
  simp only at hn hb hl
  obtain ⟨sa0, sc0, rfl, _⟩ := row_len h.steps
  simp only at h
  have hbs := h.bytes
  simp only at hbs
  obtain ⟨N, hN⟩ : ∃ N, l.length = N := ⟨_, rfl⟩
  have HN := Lib.hid hN
  rw [hN] at h hl ⊢
  obtain ⟨L, hL⟩ : ∃ L, bs.length = L := ⟨_, rfl⟩
  have HL := Lib.hid hL
  rw [hL] at hbs hn hb
  obtain ⟨tx, htx⟩ : ∃ tx, bs.drop n = tx := ⟨_, rfl⟩
  have HTX := Lib.hid htx
  -- the world in which the step is kept
  have key : ∀ wc, wc = (w.alloc (.cells #[.bool true, .string (strN tx), .int .i64 0] 135)).drew → ∃ sa' sc' w', (Builtin.append_ #[92, 92] 92 #[.slice sa0 N sc0, .slice (some ⟨w.heap.size, 0, none⟩) 1 1]).run Tryz.prog wc = .ok (.slice sa' (N + 1) sc') w' ∧
      FileAt (w'.setCell ⟨fb, 1, none⟩ (.slice sa' (N + 1) sc')) fb bv (.slice sa' (N + 1) sc') ⟨bs, l ++ [.cut tx]⟩ ∧ Turn (fun k => k = fb ∨ (Value.slice sa0 N sc0).ownBlock = some k) w (w'.setCell ⟨fb, 1, none⟩ (.slice sa' (N + 1) sc')) ∧
      w'.cell? ⟨fb, 1, none⟩ = some (.slice sa0 N sc0) ∧ w'.frozen? ⟨fb, 1, none⟩ = false ∧ ((Value.slice sa' (N + 1) sc').ownBlock = (Value.slice sa0 N sc0).ownBlock ∨ ∃ k, (Value.slice sa' (N + 1) sc').ownBlock = some k ∧ w.heap.size ≤ k) := fun wc hwc => by
    have hBel : Below w.heap.size w wc := by rw [hwc]; exact (below_alloc _ _).drew
    have hFa : FileAt wc fb bv (.slice sa0 N sc0) ⟨bs, l⟩ := h.turn (Turn.of_below (S := fun _ => False) hBel) (fun _ _ h => h)
    have hst := hFa.steps
    simp only at hst
    obtain ⟨v', w', hrun, hrow, hg, hloc⟩ := append_step wc (.slice sa0 N sc0) l N HN.out (by rw [HN.out] at hst; exact hst) (.cut tx) w.heap.size (by rw [hwc]; exact heap_alloc_new _ _) (by omega)
    obtain ⟨sa', sc', rfl, _⟩ := row_len hrow
    have hsz := hBel.size
    have hsb : (Value.slice sa' (N + 1) sc').ownBlock ≠ some fb := fun e => by
      rcases hloc with h1 | h1
      · rw [h1] at e; exact hFa.apart.2.1 e
      · rw [h1] at e; injection e with e; have := hFa.lt; omega
    have hN := hFa.newSteps (sv' := .slice sa' (N + 1) sc') (l := l ++ [.cut tx]) (Turn.of_grown hg (fun k hk => hk)) (by rw [List.length_append, HN.out]; exact hrow) hsb
    have hfbb : w'.heap[fb]? = wc.heap[fb]? := hg.block fb hFa.lt (fun e => hFa.apart.2.1 e.symm)
    refine ⟨sa', sc', w', hrun, hN, ?_, ?_, ?_, ?_⟩
    · refine Turn.set ?_ _ _ (fun _ => .inl rfl)
      exact (Turn.of_below hBel : Turn (fun k => k = fb ∨ (Value.slice sa0 N sc0).ownBlock = some k) w _).trans (Turn.of_grown hg (fun k hk => hk)) (fun i _ hh => .inr hh)
    · rw [World.cell?_of_block (w := wc) hfbb]; exact hFa.cell1
    · rw [World.frozen?_of_block (w := wc) hfbb]; exact hFa.fro 1
    · rcases hloc with h3 | h3
      · exact .inl h3
      · exact .inr ⟨_, h3, by omega⟩
  have hdone : ∀ (w1 : World) (sa' : Option Addr) (sc' : Nat), FileAt (w1.setCell ⟨fb, 1, none⟩ (.slice sa' (N + 1) sc')) fb bv (.slice sa' (N + 1) sc') ⟨bs, l ++ [.cut tx]⟩ → Turn (fun k => k = fb ∨ (Value.slice sa0 N sc0).ownBlock = some k) w (w1.setCell ⟨fb, 1, none⟩ (.slice sa' (N + 1) sc')) →
      ((Value.slice sa' (N + 1) sc').ownBlock = (Value.slice sa0 N sc0).ownBlock ∨ ∃ k, (Value.slice sa' (N + 1) sc').ownBlock = some k ∧ w.heap.size ≤ k) → ∀ bv' : Value, (∀ W : World, W.ownsRow 0 5 1 bv L (u8s bs) → W.ownsRow 0 5 1 bv' n (u8s (bs.take n))) → bv'.ownBlock = bv.ownBlock →
      ∃ bv2 sv', FileAt ((w1.setCell ⟨fb, 1, none⟩ (.slice sa' (N + 1) sc')).setCell ⟨fb, 0, none⟩ bv') fb bv2 sv' (PF.cutTo ⟨bs, l⟩ n) ∧ Turn (fileOwn fb bv (.slice sa0 N sc0)) w ((w1.setCell ⟨fb, 1, none⟩ (.slice sa' (N + 1) sc')).setCell ⟨fb, 0, none⟩ bv') ∧ bv2.ownBlock = bv.ownBlock ∧ (sv'.ownBlock = (Value.slice sa0 N sc0).ownBlock ∨ ∃ k, sv'.ownBlock = some k ∧ w.heap.size ≤ k) := by
    intro w1 sa' sc' hF ht hloc bv' htk hb'
    have hb1 := hF.bytes
    simp only at hb1
    rw [hL] at hb1
    have hlt : (bs.take n).length = n := by rw [List.length_take]; omega
    refine ⟨bv', .slice sa' (N + 1) sc', ?_, ?_, hb', hloc⟩
    · have := hF.stored (Turn.refl _ _) (bv' := bv') (b := bs.take n) (by rw [hlt]; exact htk _ hb1) (by rw [hb']; exact hF.apart.1)
      unfold PF.cutTo
      simp only
      rw [htx]
      exact this
    · refine (ht.mono (fun i _ hh => ?_)).set _ _ (fun _ => .inl rfl)
      rcases hh with hh | hh
      · exact .inl hh
      · exact .inr (.inr hh)
  have DONE := Lib.hid hdone
  clear hdone
  have c0 := h.cell0
  have c1 := h.cell1
  rcases hbs.2 with ⟨rfl, h0⟩ | ⟨g, cap, cur, rfl, _, _, hcap, _⟩
  · have hn0 : n = 0 := by omega
    subst hn0 h0
    have hbs0 : bs = [] := List.eq_nil_of_length_eq_zero HL.out
    have htx0 : tx = [] := by rw [← htx, hbs0]; rfl
    have hcv : (convert 91 9 (.slice none 0 0)).run Tryz.prog w.drew = .ok (.string (strN tx)) w.drew := by
      rw [htx0]
      exact run_convert_bytes_nil w.drew 91 5 Tryz.underlying91 Tryz.underlying5 0 0 9 Tryz.underlying9
    have htk : ∀ W : World, W.ownsRow 0 5 1 (.slice none 0 0) 0 (u8s bs) → W.ownsRow 0 5 1 (.slice none 0 0) 0 (u8s (bs.take 0)) := fun W hW => by
      rw [List.take_zero]; exact World.ownsRow_nil _ _ _ _
    have HTK := Lib.hid htk
    obtain ⟨wc, hwc⟩ : ∃ wc, wc = (w.alloc (.cells #[.bool true, .string (strN tx), .int .i64 0] 135)).drew := ⟨_, rfl⟩
    obtain ⟨sa', sc', w1, hrun, hF1, ht1, e1, g1, hloc⟩ := key wc hwc
    have k0 := hF1.cell0
    have m0 := hF1.fro 0
    have HRun := Lib.hid hrun
    have HF1 := Lib.hid hF1
    have HT1 := Lib.hid ht1
    have HW := Lib.hid hwc
    clear h hbs key hrun hF1 ht1 hwc htx hL hN htk htx0 hbs0
    go_enter Tryz.func101, Tryz.ntmps101
    go_wp2_with fail
    rw [HW.out] at HRun
    have d0 : w.drew.cell? ⟨fb, 0, none⟩ = some (Value.slice none 0 0) := c0
    have d1 : w.drew.cell? ⟨fb, 1, none⟩ = some (Value.slice sa0 N sc0) := c1
    have d3 : (w.alloc (.cells #[.bool true, .string (strN tx), .int .i64 0] 135)).cell? ⟨fb, 1, none⟩ = some (Value.slice sa0 N sc0) := by
      rw [World.cell?_of_block (w := w) (heap_alloc_old _ _ (World.block_lt_of_cell? _ _ c1))]; exact c1
    go_region_law (refine Row.step_by rfl (.tmp 8) (.tmp 17) _ rfl _ _ rfl rfl HRun.out ?_)
    all_goals
      go_wp2
      go_end0
      exact ⟨rfl, DONE.out _ _ _ HF1.out HT1.out hloc _ HTK.out rfl⟩
  · have hcv : (convert 91 9 (.slice (if cap = n then some ⟨g, 0, none⟩ else some ⟨g, n, none⟩) (L - n) (cap - n))).run Tryz.prog w.drew = .ok (.string (strN tx)) w.drew := by
      rw [← htx]
      by_cases hcn : cap = n
      · rw [if_pos hcn]
        have e : bs.drop n = [] := List.drop_of_length_le (by omega)
        rw [e, show L - n = 0 from by omega]
        have := run_convert_bytes_arg (P := Tryz.prog) w.drew 91 5 Tryz.underlying91 Tryz.underlying5 g 0 0 (cap - n) [] rfl (fun i hi => by omega) 9 Tryz.underlying9
        exact this
      · rw [if_neg hcn]
        exact conv_tail (w := w.drew) (row_of_block hbs (fun _ _ => rfl)) n (cap - n) (L - n) (by omega)
    have htk : ∀ W : World, W.ownsRow 0 5 1 (.slice (some ⟨g, 0, none⟩) L cap) L (u8s bs) → W.ownsRow 0 5 1 (.slice (some ⟨g, 0, none⟩) n cap) n (u8s (bs.take n)) := fun W hW => by
      have := row_take hW n hn
      unfold u8s at this ⊢
      rwa [← List.map_take] at this
    have HTK := Lib.hid htk
    obtain ⟨wc, hwc⟩ : ∃ wc, wc = (w.alloc (.cells #[.bool true, .string (strN tx), .int .i64 0] 135)).drew := ⟨_, rfl⟩
    obtain ⟨sa', sc', w1, hrun, hF1, ht1, e1, g1, hloc⟩ := key wc hwc
    have k0 := hF1.cell0
    have m0 := hF1.fro 0
    have HRun := Lib.hid hrun
    have HF1 := Lib.hid hF1
    have HT1 := Lib.hid ht1
    have HW := Lib.hid hwc
    clear h hbs key hrun hF1 ht1 hwc htx hL hN htk
    by_cases hcn : cap = n
    · have hLn : L = n := by omega
      subst hLn hcn
      rw [if_pos rfl] at hcv
      go_enter Tryz.func101, Tryz.ntmps101
      go_wp2_with fail
      rw [HW.out] at HRun
      have d0 : w.drew.cell? ⟨fb, 0, none⟩ = some (Value.slice (some ⟨g, 0, none⟩) cap cap) := c0
      have d1 : w.drew.cell? ⟨fb, 1, none⟩ = some (Value.slice sa0 N sc0) := c1
      have d3 : (w.alloc (.cells #[.bool true, .string (strN tx), .int .i64 0] 135)).cell? ⟨fb, 1, none⟩ = some (Value.slice sa0 N sc0) := by
        rw [World.cell?_of_block (w := w) (heap_alloc_old _ _ (World.block_lt_of_cell? _ _ c1))]; exact c1
      have hz : cap - cap = 0 := Nat.sub_self cap
      rw [hz] at hcv
      have w1' : IntKind.i64.wrap ((cap : Int) - (cap : Int)) = 0 := by rw [IntWalk.i64_in _ (by omega)]; omega
      go_region_law (refine Row.step_by rfl (.tmp 8) (.tmp 17) _ rfl _ _ rfl rfl HRun.out ?_)
      all_goals
        go_wp2
        go_end0
        exact ⟨rfl, DONE.out _ _ _ HF1.out HT1.out hloc _ HTK.out rfl⟩
    · rw [if_neg hcn] at hcv
      go_enter Tryz.func101, Tryz.ntmps101
      go_wp2_with fail
      rw [HW.out] at HRun
      have d0 : w.drew.cell? ⟨fb, 0, none⟩ = some (Value.slice (some ⟨g, 0, none⟩) L cap) := c0
      have d1 : w.drew.cell? ⟨fb, 1, none⟩ = some (Value.slice sa0 N sc0) := c1
      have d3 : (w.alloc (.cells #[.bool true, .string (strN tx), .int .i64 0] 135)).cell? ⟨fb, 1, none⟩ = some (Value.slice sa0 N sc0) := by
        rw [World.cell?_of_block (w := w) (heap_alloc_old _ _ (World.block_lt_of_cell? _ _ c1))]; exact c1
      have w1' : IntKind.i64.wrap ((L : Int) - (n : Int)) = ((L - n : Nat) : Int) := by rw [IntWalk.i64_in _ (by omega)]; omega
      go_region_law (refine Row.step_by rfl (.tmp 8) (.tmp 17) _ rfl _ _ rfl rfl HRun.out ?_)
      all_goals
        go_wp2
        go_end0
        exact ⟨rfl, DONE.out _ _ _ HF1.out HT1.out hloc _ HTK.out rfl⟩

def cutCode (G : DiskG) (p : ByteArray) (n : Int) : Nat :=
  if openCode G p ≠ 0 then openCode G p else if n < 0 ∨ (((pfAt G ((fileOf G.gc p).getD 0)).bytes.length : Nat) : Int) < n then 6 else if G.crash = 1 then 1 else 0
def CutDone (G : DiskG) (p : ByteArray) (n : Int) (c : Nat) (G' : DiskG) : Prop :=
  (c ≠ 0 ∧ Refused G c G') ∨
  (c = 0 ∧ ∃ i bv sv, fileOf G.gc p = some i ∧ G' = { DiskG.file { G with crash := G.crash - 1 } i ((pfAt G i).cutTo n.toNat) bv sv with used := G.used - ((pfAt G i).bytes.length - n.toNat) })

set_option maxRecDepth 100000 in
set_option maxHeartbeats 4000000 in
theorem shorten_any {w : World} {D : Nat} {G : DiskG} {E : Nat → Addr} (h : DiskAt w D G) (he : Env w E) (hn : NumsOk G) (hc : G.crash < 9223372036854775808) (p : ByteArray) (hp : p.size < 4294967281) (n : Int) (hni : -9223372036854775808 ≤ n ∧ n ≤ 9223372036854775807)
    (hused : G.used < 1152921504606846976) (hfs : ∀ i, i < G.pfs.length → (pfAt G i).bytes.length < 549755813888 ∧ (pfAt G i).steps.length < 1099511627776) (hus : ∀ i, fileOf G.gc p = some i → (pfAt G i).bytes.length ≤ G.used) :
    Calls Tryz.prog 74 #[.pointer (some ⟨D, 0, none⟩), .string p, .int .i64 n] w fun r w' =>
      r = .returned (errV E (cutCode G p n)) ∧ ∃ G', DiskAt w' D G' ∧ Turn (G.own D) w w' ∧ CutDone G p n (cutCode G p n) G' ∧ (∀ k, G'.own D k → G.own D k ∨ w.heap.size ≤ k) := by
  have ho := open_any h he p hp
  unfold cutCode
  by_cases hz : openCode G p = 0
  · obtain ⟨i, hfo, hv⟩ := open_file hz
    have hi := fileOf_lt hn hfo
    have hul := hus i hfo
    rw [hz, hv] at ho
    rw [if_neg (by omega), hfo, Option.getD_some]
    have hfile := h.parts.files i hi
    rw [pfAt_eq hi] at hfile
    obtain ⟨bs, hbs⟩ : ∃ bs, pfAt G i = bs := ⟨_, rfl⟩
    obtain ⟨q1, q2⟩ := hfs i hi
    rw [hbs] at hfile hul q1 q2 ⊢
    obtain ⟨L, hL⟩ : ∃ L, bs.bytes.length = L := ⟨_, rfl⟩
    obtain ⟨ba, bc, hbv, _⟩ := row_len hfile.bytes
    rw [hL] at hbv hul q1 ⊢
    have c0 : ∀ q, (w.drewN q).cell? ⟨G.ptr i, 0, none⟩ = some (.slice ba L bc) := fun q => by have := hfile.cell0; rw [hbv] at this; exact this
    have hst : ∀ q, Calls Tryz.prog 97 #[.pointer (some ⟨D, 0, none⟩)] (w.drewN q) fun e w' => e = .returned (errV E (stepCode G)) ∧ DiskAt w' D (ticked G) ∧ Turn (fun k => k = D) (w.drewN q) w' := fun q =>
      step_any (h.below ((Below.refl _ _).drewN q)) (he.turn (Turn.of_drew (S := fun _ => False) q) (fun _ _ h => h)) hc
    have g6 : ∀ q, (w.drewN q).cell? ⟨5, 0, none⟩ = some (errV E 6) := fun q => he.range
    unfold errV at g6
    have HBS := Lib.hid hbs
    have HL := Lib.hid hL
    have HFI := Lib.hid hfile
    have HN := Lib.hid hn
    have Hi := Lib.hid hi
    have Hfo := Lib.hid hfo
    have HS := Lib.hid hst
    have HD := Lib.hid h
    have Hbv := Lib.hid hbv
    unfold ptrV errV at ho
    clear h he hn hp hfo hv hi hst hc hz hfs hus hfile hbs hbv hL
    by_cases hr : n < 0 ∨ (L : Int) < n
    · rw [if_pos hr]
      unfold errV
      by_cases hneg : n < 0
      all_goals
        go_enter Tryz.func74, Tryz.ntmps74
        go_wp2_with (go_at_call 67; refine ho.mono ?_; rintro r w2 ⟨rfl, q, rfl⟩)
        go_ret
        exact ⟨rfl, G, HD.out.below ((Below.refl _ _).drewN q), Turn.of_drew q, .inl ⟨by decide, .inl ⟨rfl, .inr (by decide)⟩⟩, fun k hk => .inl hk⟩
    · rw [if_neg hr]
      obtain ⟨N, rfl⟩ : ∃ N : Nat, n = (N : Int) := ⟨n.toNat, by omega⟩
      have hNL : N ≤ L := by omega
      have hnn : ¬ ((N : Int) < 0) := by omega
      have hnl : ¬ ((L : Int) < (N : Int)) := by omega
      clear hr
      by_cases h1 : G.crash = 1
      · rw [if_pos h1]
        have e1 : stepCode G = 1 := by unfold stepCode; rw [if_pos h1]
        have e2 : ticked G = { G with off := true } := by unfold ticked; rw [if_pos h1]
        rw [e1, e2] at HS
        have H1 := Lib.hid h1
        unfold errV at HS ⊢
        clear h1 e1 e2
        go_enter Tryz.func74, Tryz.ntmps74
        go_wp2_with (first
          | (go_at_call 67; refine ho.mono ?_; rintro r w2 ⟨rfl, q, rfl⟩)
          | (go_at_call 97; ((with_reducible refine (HS.out _).mono ?_); rintro r w3 ⟨rfl, hd3, ht3⟩)))
        go_ret
        exact ⟨rfl, _, hd3, (Turn.of_drew q).trans ht3 (fun i _ hh => .inl hh), .inl ⟨by decide, .inr ⟨H1.out, rfl, rfl⟩⟩, fun k hk => .inl hk⟩
      · rw [if_neg h1]
        have e1 : stepCode G = 0 := by unfold stepCode; rw [if_neg h1]
        have e2 : ticked G = { G with crash := G.crash - 1 } := by unfold ticked; rw [if_neg h1]
        rw [e1, e2] at HS
        unfold errV at HS ⊢
        clear h1 e1 e2
        have hsh : ∀ w3 w4 q, DiskAt w3 D { G with crash := G.crash - 1 } → Turn (fun k => k = D) (w.drewN q) w3 → w4 = w3.setCell ⟨D, 4, none⟩ (.int .i64 ((G.used : Int) - ((L : Int) - (N : Int)))) → Calls Tryz.prog 101 #[.pointer (some ⟨G.ptr i, 0, none⟩), .int .i64 (N : Int)] w4 fun r w5 => r = .returned (.tuple #[]) ∧ ∃ bv sv, ∃ G', G' = { DiskG.file { G with crash := G.crash - 1 } i (bs.cutTo N) bv sv with used := G.used - (L - N) } ∧ DiskAt w5 D G' ∧ Turn (fun k => k = D ∨ fileOwn (G.ptr i) (G.bvs i) (G.svs i) k) w3 w5 ∧ (∀ k, G'.own D k → G.own D k ∨ w.heap.size ≤ k) := fun w3 w4 q hd3 ht3 hw4 => by
          have hd4 : DiskAt w4 D { G with crash := G.crash - 1, used := G.used - (L - N) } := by
            rw [hw4]
            exact hd3.set 4 _ _ (by simp [DiskG.cells, topV]; omega) (fun hp => hp.with rfl rfl rfl rfl rfl rfl rfl rfl)
          have hf4 := hd4.parts.files i Hi.out
          have hpf : G.pfs[i]'Hi.out = bs := by rw [pfAt_eq Hi.out, HBS.out]
          simp only [hpf] at hf4
          refine (fileShorten_any bs (G.ptr i) (G.bvs i) (G.svs i) w4 hf4 N (by rw [HL.out]; exact hNL) (by rw [HL.out]; omega) q2).mono fun r w5 hh => ?_
          obtain ⟨hr, bv, sv, hf5, ht5, hb, hs⟩ := hh
          have lb : locOk w4 (G.bvs i) bv := .inl hb
          have ls : locOk w4 (G.svs i) sv := by rcases hs with hs | hs; exact .inl hs; exact .inr (.inr hs)
          have t4 : Turn (fun k => k = D ∨ fileOwn (G.ptr i) (G.bvs i) (G.svs i) k) w3 w4 := by rw [hw4]; exact (Turn.refl _ _).set _ _ (fun _ => .inl rfl)
          refine ⟨hr, bv, sv, _, rfl, hd4.filed Hi.out hf5 ht5 lb ls, t4.trans ht5 (fun _ _ h => .inr h), fun k hk => ?_⟩
          rcases own_file (G := { G with crash := G.crash - 1, used := G.used - (L - N) }) Hi.out lb ls hk with h1 | h1
          · exact .inl h1
          · have h3 := ht3.size; have h4 := t4.size; exact .inr (by simp at h3; omega)
        have HX := Lib.hid hsh
        clear hsh
        have hsub : IntKind.i64.wrap ((L : Int) - (N : Int)) = (L : Int) - (N : Int) := by rw [IntWalk.i64_in _ (by omega)]
        have hsub2 : IntKind.i64.wrap ((G.used : Int) - ((L : Int) - (N : Int))) = (G.used : Int) - ((L : Int) - (N : Int)) := by rw [IntWalk.i64_in _ (by omega)]
        go_enter Tryz.func74, Tryz.ntmps74
        go_wp2_with (first
          | (go_at_call 67; refine ho.mono ?_; rintro r w2 ⟨rfl, q, rfl⟩)
          | (go_at_call 97; ((with_reducible refine (HS.out _).mono ?_); rintro r w3 ⟨rfl, hd3, ht3⟩; have hf3 := hd3.parts.files i Hi.out; have k0 := hf3.cell0; simp only at k0; rw [Hbv.out] at k0; have k4 : w3.drew.cell? ⟨D, 4, none⟩ = some (.int .i64 (G.used : Int)) := hd3.cell 4; have k0' : w3.drew.cell? ⟨G.ptr i, 0, none⟩ = some (.slice ba L bc) := k0; have f4 := hd3.fro 4; have HD3 := Lib.hid hd3; have HT3 := Lib.hid ht3; clear hf3 hd3 ht3)))
        refine wp_region_still_tail 14 (by kernel_rfl) (by kernel_rfl) ?_
        simp only [List.take_succ_cons, List.take_zero, List.drop_succ_cons, List.drop_zero]
        change wpStill _ _ w3.drew _ _ _
        have f4' : w3.drew.frozen? ⟨D, 4, none⟩ = false := f4
        have hx := HX.out w3.drew _ q (HD3.out.below (Below.refl _ _).drew) (HT3.out.drew 1) rfl
        have HX2 := Lib.hid hx
        clear hx
        repeat still_step
        refine wpStill_nil ?_
        change wpList _ _ _ _ _ w3.drew
        go_wp2_with (go_at_call 101; ((refine HX2.out.mono ?_); rintro r w5 ⟨rfl, bv, sv, G', hG', hd5, ht5, hnew⟩))
        go_ret
        refine ⟨rfl, G', hd5, ?_, .inr ⟨rfl, i, bv, sv, Hfo.out, ?_⟩, hnew⟩
        · have t1 : Turn (G.own D) w w3 := (Turn.of_drew q).trans HT3.out (fun i _ hh => .inl hh)
          exact (t1.drew 1).trans ht5 (fun k _ hh => by rcases hh with hh | hh; exact .inl hh; exact .inr (.inr (.inr (.inr (.inr ⟨i, Hi.out, hh⟩)))))
        · rw [hG', HBS.out, HL.out]
          rfl
  · rw [if_pos hz]
    rw [open_none hz] at ho
    obtain ⟨c, hcc⟩ : ∃ c, openCode G p = c + 1 := ⟨openCode G p - 1, by omega⟩
    have hoc : G.off = true ∨ c + 1 ≠ 1 := by rw [← hcc]; exact openCode_off G p
    rw [hcc] at ho ⊢
    have HD := Lib.hid h
    have HOC := Lib.hid hoc
    clear hoc
    unfold errV at ho ⊢
    clear h he hn hp hc hcc hz hfs hus
    go_enter Tryz.func74, Tryz.ntmps74
    go_wp2_with (go_at_call 67; refine ho.mono ?_; rintro r w2 ⟨rfl, n, rfl⟩)
    go_ret
    exact ⟨rfl, G, HD.out.below ((Below.refl _ _).drewN n), Turn.of_drew n, .inl ⟨by omega, .inl ⟨rfl, HOC.out⟩⟩, fun k hk => .inl hk⟩

theorem Cut_any {w : World} {D : Nat} {G : DiskG} {E : Nat → Addr} (h : DiskAt w D G) (he : Env w E) (hn : NumsOk G) (hc : G.crash < 9223372036854775808) (p : ByteArray) (hp : p.size < 4294967281) (n : Int) (hni : -9223372036854775808 ≤ n ∧ n ≤ 9223372036854775807)
    (hused : G.used < 1152921504606846976) (hfs : ∀ i, i < G.pfs.length → (pfAt G i).bytes.length < 549755813888 ∧ (pfAt G i).steps.length < 1099511627776) (hus : ∀ i, fileOf G.gc p = some i → (pfAt G i).bytes.length ≤ G.used) :
    Calls Tryz.prog 31 #[.pointer (some ⟨D, 0, none⟩), .string p, .int .i64 n] w fun r w' =>
      ∃ v G', r = .returned v ∧ ErrAt w' E v (cutCode G p n) "cut".toUTF8 p ∧ DiskAt w' D G' ∧ Turn (G.own D) w w' ∧ CutDone G p n (cutCode G p n) G' ∧ (∀ k, G'.own D k → G.own D k ∨ w.heap.size ≤ k) := by
  have h1 := shorten_any h he hn hc p hp n hni hused hfs hus
  have h2 := fun W => refused_err ⟨#[99, 117, 116]⟩ p E (cutCode G p n) W
  have H1 := Lib.hid h1
  have H2 := Lib.hid h2
  clear h he hn hc hp h1 h2 hni hused hfs hus
  go_enter Tryz.func31, Tryz.ntmps31
  go_wp2_with (first
    | (go_at_call 74; ((with_reducible refine H1.out.mono ?_); rintro r w2 ⟨rfl, G', hd, ht, hcr, hnew⟩))
    | (go_at_call 55; ((with_reducible refine (H2.out _).mono ?_); rintro r w3 ⟨v, rfl, hv, hb⟩)))
  go_ret
  exact ⟨_, G', rfl, hv, hd.below hb, ht.trans (Turn.of_below hb : Turn (fun _ => False) _ _) (fun _ _ h => h.elim), hcr, hnew⟩

end Go.Proofs.YtmmlefbokplnnaaGreatDoor.Disk
