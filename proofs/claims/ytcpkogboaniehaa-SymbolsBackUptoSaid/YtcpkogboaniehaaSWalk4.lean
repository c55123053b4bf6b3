/-
  The walk of SymbolsCollects. Own text.
-/
import Derived.Test.YtcpkogboaniehaaSSets
import Derived.Test.YtcpkogboaniehaaSLaw
namespace Go.Proofs.Ytcpkogboaniehaa.Sym
open Go.RowKit Go Go.Proofs.Ytcpkogboaniehaa.Base Go.Proofs.Ytcpkogboaniehaa.Lab Go.Shelf Go.Sort

theorem refs_info : (Try.prog.info? 39).map (fun i => (i.zero, i.size, i.bytes)) = some (some (.slice none 0 0), 1, 24) := by kernel_rfl

/-- the lists that the values of a row of one's own stand for -/
structure Given (w wr : World) (so : Option Addr) (n cap : Nat) (vs : List Value) (sets : List (List Lab)) : Prop where
  below : Below w.heap.size w wr
  row : wr.ownsRow 0 39 1 (.slice so n cap) n vs
  new : ∀ k, (Value.slice so n cap).ownBlock = some k → w.heap.size ≤ k
  len : sets.length = n
  each : ∀ i, i < n → ∃ lo cl, vs[i]? = some (.slice lo sets[i]!.length cl) ∧ sets[i]!.length ≤ cl ∧ LabsAt wr lo sets[i]! ∧ ∀ b off, lo = some ⟨b, off, none⟩ → 0 < sets[i]!.length → (Value.slice so n cap).ownBlock ≠ some b

theorem Given.sets {w wr : World} {so : Option Addr} {n cap : Nat} {vs : List Value} {sets : List (List Lab)} (h : Given w wr so n cap vs sets) : SetsAt wr so sets := fun k hk => by
  have hlen := h.len
  obtain ⟨lo, cl, h1, h2, h3, _⟩ := h.each k (by omega)
  rcases h.row.2 with ⟨e, h0⟩ | ⟨g, c, cur, e, _, k2, k3, k4, k5, k6⟩
  · omega
  · injection e with e1 _ e2
    subst e1 e2
    refine ⟨g, 0, rfl, (Array.getElem?_eq_some_iff.1 k2).1, lo, cl, ?_, h2, h3⟩
    rw [← k6, Nat.mul_one, List.getElem?_take_of_lt (by omega), Array.getElem?_toList] at h1
    simp only [World.cell?, k2, Nat.zero_add]
    simp only [Option.isSome_none, Bool.false_eq_true, if_false]
    exact h1

theorem Given.add {w wr W : World} {so : Option Addr} {n cap : Nat} {vs : List Value} {sets : List (List Lab)} (h : Given w wr so n cap vs sets) {lo : Option Addr} {cl : Nat} {l : List Lab}
    (hrow : LabRow 70 wr W (.slice lo l.length cl) l) (hn : (n + 1) * 24 ≤ 140737488355328) :
    ∃ so' cap' w' vs', (Builtin.append_ #[37, 37] 37 #[.slice so n cap, .slice (some ⟨W.heap.size, 0, none⟩) 1 1]).run Try.prog (W.alloc (.cells #[.slice lo l.length cl] 39)) = .ok (.slice so' (n + 1) cap') w' ∧ Given w w' so' (n + 1) cap' vs' (sets ++ [l]) := by
  have hb := hrow.below
  obtain ⟨so', cap', w', h1, h2, h3, h4⟩ := row_add Try.underlying37 refs_info (own_kept h.row hb) (.slice lo l.length cl) rfl hn
  obtain ⟨lo2, cl2, he, hcl, hL⟩ := hrow.labs
  injection he with e1 _ e2
  subst e1 e2
  have hbW : Below w.heap.size w (W.alloc (.cells #[.slice lo l.length cl] 39)) := le_below h.below (le_below hb (below_alloc _ _))
  have hlen := h.len
  have hsz := hb.size
  have hob : ∀ k, (Value.slice so n cap).ownBlock = some k → k < wr.heap.size := fun k hk => by
    rcases h.row.2 with ⟨e, h0⟩ | ⟨g, c, cur, e, _, k2, _⟩
    · rw [e] at hk; cases hk
    · rw [e] at hk
      simp only [Value.ownBlock, Option.some.injEq] at hk
      have := (Array.getElem?_eq_some_iff.1 k2).1
      omega
  refine ⟨so', cap', w', vs ++ [.slice lo l.length cl], h1, hbW.grown h3 hbW.size h.new, h2, fun k hk => ?_, by rw [List.length_append, hlen]; rfl, fun i hi => ?_⟩
  · rcases h4 with e | e
    · exact h.new k (by rw [← e]; exact hk)
    · rw [hk] at e
      injection e with e
      have := h.below.size
      omega
  · have hvl : vs.length = n := by have := h.row.1; omega
    rcases Nat.lt_or_ge i n with hlt | hge
    · obtain ⟨lo3, cl3, p1, p2, p3, p4⟩ := h.each i hlt
      have e : (sets ++ [l])[i]! = sets[i]! := by
        rw [getElem!_pos (sets ++ [l]) i (by rw [List.length_append]; omega), getElem!_pos sets i (by omega), List.getElem_append_left (by omega)]
      rw [e]
      have p3W : LabsAt (W.alloc (.cells #[.slice lo l.length cl] 39)) lo3 sets[i]! := p3.below (le_below hb (below_alloc _ _)) (Nat.le_refl _)
      refine ⟨lo3, cl3, by rw [List.getElem?_append_left (by omega)]; exact p1, p2, labs_grown p3W h3 p4, fun b off hb2 hpos => ?_⟩
      rcases h4 with e4 | e4
      · rw [e4]; exact p4 b off hb2 hpos
      · rw [e4]
        intro e5
        injection e5 with e5
        obtain ⟨b', off', q1, q2, _⟩ := p3 0 hpos
        rw [hb2] at q1
        injection q1 with q1
        injection q1 with q1 _
        omega
    · obtain rfl : i = n := by omega
      have e : (sets ++ [l])[i]! = l := by
        rw [getElem!_pos (sets ++ [l]) i (by rw [List.length_append, hlen]; simp), List.getElem_append_right (by omega)]
        simp [hlen]
      rw [e]
      have hnb : ∀ b off, lo = some ⟨b, off, none⟩ → 0 < l.length → wr.heap.size ≤ b ∧ b < W.heap.size := fun b off e5 hpos => by
        refine ⟨hrow.new b (by rw [e5]; rfl), ?_⟩
        obtain ⟨b', off', q1, q2, _⟩ := hL 0 hpos
        rw [e5] at q1
        injection q1 with q1
        injection q1 with q1 _
        omega
      refine ⟨lo, cl, by rw [List.getElem?_append_right (by omega), hvl, Nat.sub_self]; rfl, hcl, labs_grown (hL.below (below_alloc _ _) (Nat.le_refl _)) h3 (fun b off e5 hpos e6 => ?_), fun b off e5 hpos e6 => ?_⟩
      · have := hob b e6
        have := (hnb b off e5 hpos).1
        omega
      · rcases h4 with e4 | e4
        · rw [e4] at e6
          have := hob b e6
          have := (hnb b off e5 hpos).1
          omega
        · rw [e4] at e6
          injection e6 with e6
          have := (hnb b off e5 hpos).2
          omega

set_option maxRecDepth 100000 in
set_option maxHeartbeats 4000000 in
theorem collects_walk (ao : Option Addr) (cap : Nat) (sets : List (List Lab)) (w : World) (hS : SetsAt w ao sets) (hwt : wtS sets ≤ 1048576) :
    Calls Try.prog 4 #[.slice ao sets.length cap] w fun e w' => e = .returned (.bool true) ∧ Below w.heap.size w w' := by
  have hfl := wtS_flat sets
  have hml : ∀ k, k < sets.length → sets[k]!.length ≤ 1048576 := fun k hk => by
    have hm : sets[k]! ∈ sets := by rw [getElem!_pos sets k hk]; exact List.getElem_mem _
    have := wtS_mem hm
    have := wtL_length sets[k]!
    omega
  have h1 := fun (W : World) (hb : Below w.heap.size w W) => collect_any ao cap sets W (by omega) (by omega) (hS.below hb (Nat.le_refl _))
  have h2 := fun (W : World) (x : Option Addr) (cx : Nat) (h : SetsAt W x sets) => refCollect_any x cx sets W (by omega) (by omega) h
  have h3 := fun (W : World) (p : Value) (x y : Option Addr) (cx cy : Nat) (h : TabAt W p (tab (flat sets)) x cx) (hy : TextsAt W y (tab (flat sets))) => is_any W h y cy hy
  have hn := (by omega : sets.length ≤ 1048576)
  generalize tab (flat sets) = T at *
  have HS := Lib.hid hS
  have H1 := Lib.hid h1
  have H2 := Lib.hid h2
  have H3 := Lib.hid h3
  have HW := Lib.hid wakes_any
  have HML := Lib.hid hml
  have HN := Lib.hid hn
  clear hS h1 h2 h3 hml hfl hwt
  go_enter Try.func4, Try.ntmps4
  go_wp2_with fail
  go_loopg [3, 8] sets.length (fun r q i wr => ∃ (k n cap : Nat) (so : Option Addr) (vs : List Value), Hid (k + r = sets.length) ∧ k ≤ sets.length ∧ i = .int .i64 (k : Int) ∧ q = .slice so n cap ∧ Hid (n = k) ∧ Hid (Given w wr so n cap vs (sets.take k)))
  case atStart => exact ⟨0, 0, 0, none, [], Nat.zero_add _, Nat.zero_le _, rfl, rfl, rfl, by show Given _ _ _ _ _ _ _; exact ⟨Below.refl _ _, World.ownsRow_nil _ _ _ _, fun k hk => (by cases hk), by simp, fun i hi => (by omega)⟩⟩
  case round =>
    obtain ⟨k, n, cap2, so, vs, hE, hk, rfl, rfl, HNK, HG⟩ := hrel
    have hG := HG.out
    by_cases hlt : k < sets.length
    · obtain ⟨b, off, rfl, hbw, lo, cl, q0, hcl, hLk⟩ := (HS.out.below hG.below (Nat.le_refl _)) k hlt
      have hmk := HML.out k hlt
      have hr := Go.Proofs.Ytcpkogboaniehaa.Lab.ref_any lo cl sets[k]! wr (by omega) hLk
      have htk : sets.take (k + 1) = sets.take k ++ [sets[k]!] := by rw [List.take_succ_eq_append_getElem hlt, getElem!_pos sets k hlt]
      have hadd := fun (W : World) (lo' : Option Addr) (cl' : Nat) (hrow : LabRow 70 wr W (.slice lo' sets[k]!.length cl') sets[k]!) => hG.add hrow (by have := HN.out; have := HNK.out; omega)
      rw [← htk] at hadd
      generalize sets[k]! = M at *
      have HR := Lib.hid hr
      have HADD := Lib.hid hadd
      clear hr hadd hG hLk htk
      go_wp2_with (first
        | (go_at_call 16; ((with_reducible refine HR.out.mono ?_); rintro e w2 ⟨a2, c2, rfl, hrow⟩; obtain ⟨so', cap', w', vs', hrun, hg⟩ := HADD.out _ _ _ hrow; have HRun := Lib.hid hrun; have HG2 := Lib.hid hg; clear hrun hg hrow))
        | (at_builtin; refine Row.append_by rfl (.tmp 12) (.tmp 15) _ rfl _ _ rfl rfl HRun.out ?_))
      go_roundg (sets.length - (k + 1))
      case measure => have := hE.out; omega
      case rel => exact ⟨k + 1, n + 1, cap', so', vs', by show _ = _; omega, by omega, by go_num, rfl, by show _ = _; have := HNK.out; omega, HG2.out⟩
    · obtain rfl : k = sets.length := by omega
      obtain rfl : n = sets.length := HNK.out
      rw [List.take_length] at hG
      have HSR := Lib.hid hG.sets
      have B0 := Lib.hid hG.below
      clear hG
      go_wp2_with (go_at_call 14; ((with_reducible refine (HW.out _).mono ?_); rintro e w2 ⟨rfl, hb⟩; have B2 := Lib.hid (le_below B0.out hb); have S2 := Lib.hid (HSR.out.below hb (Nat.le_refl _)); clear hb))
      go_wp2_with (go_at_call 17; ((with_reducible refine (H1.out _ B2.out).mono ?_); rintro e w3 ⟨p, rfl, hN⟩; obtain ⟨a3, c3, ht⟩ := hN.tab; have P3 := Lib.hid ht; have B3 := Lib.hid (le_below B2.out hN.below); have S3 := Lib.hid (S2.out.below hN.below (Nat.le_refl _)); clear hN ht))
      go_wp2_with (go_at_call 18; ((with_reducible refine (H2.out _ _ _ S3.out).mono ?_); rintro e w4 ⟨v4, rfl, hrow⟩; obtain ⟨a4, c4, rfl, _, ht⟩ := hrow.texts; have T4 := Lib.hid ht; have P4 := Lib.hid (P3.out.below hrow.below (Nat.le_refl _)); have B4 := Lib.hid (le_below B3.out hrow.below); clear hrow ht))
      go_wp2_with (go_at_call 15; ((with_reducible refine (H3.out _ _ _ _ _ _ P4.out T4.out).mono ?_); rintro e w5 ⟨rfl, hb⟩; have B5 := Lib.hid (le_below B4.out hb); clear hb))
      go_ret
      exact ⟨by first | rfl | exact ret_bool (by simp), B5.out⟩

end Go.Proofs.Ytcpkogboaniehaa.Sym
