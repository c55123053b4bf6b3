/-
  The law LabelsKeeps: its walk. Own text.
-/
import Derived.Test.YtlolhbhanjhkbaaLOpen
namespace Go.Proofs.Ytlolhbhanjhkbaa.Lab
open Go.RowKit Go Go.Proofs.Ytlolhbhanjhkbaa.Base Go.Shelf Go.Sort

/-- a row of the law's own that is written to and grows: of what was there only its block may turn -/
structure Marks (W5 W : World) (ga : Option Nat) (v : Value) (l : List Lab) : Prop where
  grown : W5.grownBy W ga
  row : W.ownsRow 0 62 2 v l.length (cellsL l)
  own : ∀ k, v.ownBlock = some k → ga = some k ∨ W5.heap.size ≤ k

theorem grown_trans {a b c : World} {ga gb : Option Nat} (h1 : a.grownBy b ga) (h2 : b.grownBy c gb) (hb : ∀ k, gb = some k → ga = some k ∨ a.heap.size ≤ k) : a.grownBy c ga :=
  ⟨h2.os.trans h1.os, h2.tape.trans h1.tape, h2.output.trans h1.output, Nat.le_trans h1.size h2.size, fun k hk hne => (h2.block k (Nat.lt_of_lt_of_le hk h1.size) (fun e => by
    rcases hb k e.symm with h | h
    · exact hne h.symm
    · omega)).trans (h1.block k hk hne)⟩
theorem grown_refl (a : World) (g : Option Nat) : a.grownBy a g := ⟨rfl, rfl, rfl, Nat.le_refl _, fun _ _ _ => rfl⟩
theorem grown_alloc (a : World) (o : Obj) : a.grownBy (a.alloc o) none := ⟨rfl, rfl, rfl, by simp, fun k hk _ => heap_alloc_old a o hk⟩

theorem Marks.shape {W5 W : World} {ga : Option Nat} {ao : Option Addr} {n cap : Nat} {l : List Lab} (h : Marks W5 W ga (.slice ao n cap) l) (h1 : 1 ≤ l.length) : ∃ g, ao = some ⟨g, 0, none⟩ ∧ n = l.length ∧
    (∀ j, j < l.length → W.cell? ⟨g, j * 2, none⟩ = some (.string l[j]!.n) ∧ W.cell? ⟨g, j * 2 + 1, none⟩ = some (.string l[j]!.v)) ∧ (∀ j, W.frozen? ⟨g, j, none⟩ = false) := by
  have hr := h.row
  rcases h.row.2 with ⟨e, h0⟩ | ⟨g, cap', cur, e, h2, h3, h4, h5, h6, h7⟩
  · omega
  · injection e with e1 e2 e3
    subst e1 e2 e3
    refine ⟨g, rfl, rfl, fun j hj => ?_, fun j => hr.frozenAt j⟩
    have hc := cellsL_at l j hj
    rw [← h7, List.getElem?_take_of_lt (by omega), List.getElem?_take_of_lt (by omega), Array.getElem?_toList, Array.getElem?_toList] at hc
    simp only [World.cell?, h3]
    simp only [Option.isSome_none, Bool.false_eq_true, if_false]
    exact hc

theorem Marks.stored {W5 W : World} {ga : Option Nat} {g n cap : Nat} {l : List Lab} (h : Marks W5 W ga (.slice (some ⟨g, 0, none⟩) n cap) l) (j : Nat) (y : Lab) :
    Marks W5 ((W.setCell ⟨g, j * 2, none⟩ (.string y.n)).setCell ⟨g, j * 2 + 1, none⟩ (.string y.v)) ga (.slice (some ⟨g, 0, none⟩) n cap) (l.set j y) := by
  have hn : n = l.length := by
    rcases h.row.2 with ⟨e, _⟩ | ⟨g', cap', cur, e, _⟩
    · cases e
    · injection e
  subst hn
  obtain ⟨h1, g1⟩ := h.row.stored (j * 2) (.string y.n)
  obtain ⟨h2, g2⟩ := h1.stored (j * 2 + 1) (.string y.v)
  refine ⟨grown_trans (grown_trans h.grown g1 h.own) g2 h.own, ?_, h.own⟩
  rw [cellsL_set, List.length_set]
  exact h2

theorem Marks.append {W5 W : World} {ga : Option Nat} {v : Value} {l : List Lab} (h : Marks W5 W ga v l) (y : Lab) (hl : l.length < 1048576) :
    ∃ ao cap w', (Builtin.append_ #[22, 22] 22 #[v, .slice (some ⟨W.heap.size, 0, none⟩) 1 1]).run Try.prog (W.alloc (.cells #[.string y.n, .string y.v] 62)) = .ok (.slice ao (l.length + 1) cap) w' ∧ Marks W5 w' ga (.slice ao (l.length + 1) cap) (l ++ [y]) := by
  obtain ⟨i0, hi, hz0, hz1, hz2⟩ := info_parts2 lab_info
  have hsrc : Src Try.prog 2 22 (.slice (some ⟨W.heap.size, 0, none⟩) 1 1) 1 (cellsL [y]) (W.alloc (.cells #[.string y.n, .string y.v] 62)) := by
    refine Src.ofSlice _ Try.underlying22 _ 1 1 _ rfl ?_ (cellsL_one _)
    intro j u hu
    rw [Go.WideShapes.add_plain, Nat.zero_add]
    exact cell_new rfl (by simpa [cellsL, Lab.cells] using hu)
  obtain ⟨v', w', h1, h2, h3, h4⟩ := Row.append_src (P := Try.prog) (W.alloc (.cells #[.string y.n, .string y.v] 62)) 22 22 22 62 i0 _ 2 32 Try.underlying22 hi hz0 hz1 hz2 rfl (by decide) v l.length _ (h.row.alloc _) _ 1 _ hsrc (by unfold maxLen; omega) (by omega)
  have hg : W5.grownBy w' ga := grown_trans (grown_trans h.grown (grown_alloc W _) (fun k hk => by cases hk)) h3 h.own
  have hnew : ∀ k, v'.ownBlock = some k → ga = some k ∨ W5.heap.size ≤ k := fun k hk2 => by
    rcases h4 with e | e
    · exact h.own k (by rw [← e]; exact hk2)
    · rw [hk2] at e
      injection e with e
      have := h.grown.size
      rw [World.size_alloc] at e
      right; omega
  rw [← cellsL_append] at h2
  have h2' : w'.ownsRow 0 62 2 v' (l ++ [y]).length (cellsL (l ++ [y])) := by rw [List.length_append]; exact h2
  rcases h2'.2 with ⟨e, h0⟩ | ⟨g, cap, cur, e, h5⟩
  · simp at h0
  · rw [List.length_append] at e
    simp only [List.length_cons, List.length_nil] at e
    subst e
    exact ⟨_, cap, w', h1, hg, h2', hnew⟩

theorem LabsAt.low {wA W5 W : World} {ga : Option Nat} {ao : Option Addr} {l : List Lab} (h : LabsAt wA ao l) (hA : Below wA.heap.size wA W5) (g : W5.grownBy W ga) (hg : ∀ k, ga = some k → wA.heap.size ≤ k) : LabsAt W ao l := fun j hj => by
  obtain ⟨b, off, e, hb, c0, c1⟩ := h j hj
  have hs := hA.size
  have hs2 := g.size
  have hbl : W.heap[b]? = wA.heap[b]? := (g.block b (by omega) (fun e => by have := hg b e.symm; omega)).trans (hA.block b hb)
  refine ⟨b, off, e, by omega, ?_, ?_⟩
  · rw [← c0]; simp only [World.cell?, hbl]
  · rw [← c1]; simp only [World.cell?, hbl]
theorem LabsAt.high {W5 W : World} {ga : Option Nat} {ao : Option Addr} {l : List Lab} {Bd : Nat} (h : LabsAt W5 ao l) (g : W5.grownBy W ga) (hb : ∀ b off, ao = some ⟨b, off, none⟩ → Bd ≤ b) (hg : ∀ k, ga = some k → k < Bd) : LabsAt W ao l := fun j hj => by
  obtain ⟨b, off, e, hbs, c0, c1⟩ := h j hj
  have hs2 := g.size
  have h1 := hb b off e
  have hbl : W.heap[b]? = W5.heap[b]? := g.block b hbs (fun e => by have := hg b e.symm; omega)
  refine ⟨b, off, e, by omega, ?_, ?_⟩
  · rw [← c0]; simp only [World.cell?, hbl]
  · rw [← c1]; simp only [World.cell?, hbl]

def mark : Lab := ⟨⟨#[109, 97, 114, 107]⟩, ⟨#[109, 97, 114, 107]⟩⟩
def grownL : Lab := ⟨⟨#[103, 114, 111, 119, 110]⟩, ⟨#[]⟩⟩


set_option maxRecDepth 100000 in
set_option maxHeartbeats 8000000 in
theorem keeps_walk (ao : Option Addr) (cap : Nat) (l : List Lab) (v : Value) (w : World) (hI : InLabs w v ao cap l) :
    Calls Try.prog 12 #[.slice ao l.length cap] w fun e w' => e = .returned (.bool true) ∧ Below w.heap.size w w' := by
  have hl : l.length < 4611686018427387904 := by have := hI.long; omega
  have hw := fun W => wakes_any W
  have h1 := twin_any ao cap l w (by have := hI.long; omega) hI.labs
  have h2 := fun (W : World) (x : Option Addr) (cx : Nat) (hc : l.length ≤ cx) (hx : LabsAt W x l) => make_any x cx l W hl hc hx
  have h3 := fun (W : World) (hx : LabsAt W ao l) => ref_any ao cap l W (by have := hI.long; omega) hx
  have h4 := fun (W : World) (x : Option Addr) (cx : Nat) (hx : LabsAt W x l) => refMake_any x cx l W hl hI.sz hx
  have hml : (makeL l).length ≤ 8 := by
    unfold makeL; split
    · rename_i h0; rw [sortL_length]; exact (chk_zero_len h0).2
    · simp
  have h5 := fun (W : World) (x y : Option Addr) (cx cy : Nat) (hx : LabsAt W x (makeL l)) (hy : LabsAt W y (makeL l)) => alike_any x y cx cy (makeL l) (makeL l) W (by omega) (by omega) hx hy
  have h8 := fun (W : World) (x y : Option Addr) (cx cy : Nat) (hx : LabsAt W x l) (hy : LabsAt W y l) => alike_any x y cx cy l l W hl hl hx hy
  simp only [decide_true] at h5 h8
  generalize makeL l = M at h2 h4 h5 hml
  generalize chk l = E at h2 h4
  have L0 := Lib.hid hI.labs
  have HW := Lib.hid hw
  have H1 := Lib.hid h1
  have H2 := Lib.hid h2
  have H3 := Lib.hid h3
  have H4 := Lib.hid h4
  have H5 := Lib.hid h5
  have H8 := Lib.hid h8
  have HM := Lib.hid hml
  clear hw h1 h2 h3 h4 h5 h8 hml hl hI
  go_enter Try.func12, Try.ntmps12
  go_wp2_with (go_at_call 13; ((with_reducible refine (H1.out).mono ?_); rintro e w1 ⟨ao1, cap1, rfl, hrow⟩; obtain ⟨ao2, cap2, he, hc1, hlab⟩ := hrow.labs; injection he with he1 _ he2; subst he1 he2; have B1 := Lib.hid hrow.below; have L1 := Lib.hid hlab; have C1 := Lib.hid hc1; clear hrow hlab hc1))
  go_wp2_with (go_at_call 14; ((with_reducible refine (H2.out w1 _ _ C1.out L1.out).mono ?_); rintro e w2 ⟨v2, rfl, hown, hb2⟩; obtain ⟨ao3, cap3, rfl, _, _, hL2, _⟩ := labs_of_row hown; have K2 := Lib.hid hb2; have O2 := Lib.hid hown; have L1b := Lib.hid (L1.out.below hb2 (Nat.le_refl _)); clear hown hb2 hL2))
  go_wp2_with (go_at_call 14; ((with_reducible refine (H2.out w2 _ _ C1.out L1b.out).mono ?_); rintro e w3 ⟨v3, rfl, hown, hb3⟩; obtain ⟨ao4, cap4, rfl, _, _, hL3, _⟩ := labs_of_row hown; have K3 := Lib.hid hb3; have O3 := Lib.hid hown; have L3 := Lib.hid hL3; clear hown hb3 hL3))
  go_wp2_with (go_at_call 16; ((with_reducible refine (H3.out w3 (((L0.out.below B1.out (Nat.le_refl _)).below K2.out (Nat.le_refl _)).below K3.out (Nat.le_refl _))).mono ?_); rintro e w4 ⟨ao5, cap5, rfl, hrow⟩; obtain ⟨ao6, cap6, he, _, hlab⟩ := hrow.labs; injection he with he1 _ he2; subst he1 he2; have K4 := Lib.hid hrow.below; have L4 := Lib.hid hlab; clear hrow hlab))
  go_wp2_with (go_at_call 15; ((with_reducible refine (H4.out _ _ _ L4.out).mono ?_); rintro e w5 ⟨v5, rfl, hrow⟩; obtain ⟨ao7, cap7, rfl, _, hlab⟩ := hrow.labs; have K5 := Lib.hid hrow.below; have L5 := Lib.hid hlab; have N5 := Lib.hid hrow.new; clear hrow hlab))
  go_wp2_with (go_at_call 17; ((with_reducible refine (HW.out _).mono ?_); rintro e w6 ⟨rfl, hb6⟩; have K6 := Lib.hid hb6; clear hb6))
  have hK26 : Below w2.heap.size w2 w6 := le_below (le_below (le_below K3.out K4.out) K5.out) K6.out
  have hK16 : Below w1.heap.size w1 w6 := le_below K2.out hK26
  have hK06 : Below w.heap.size w w6 := le_below B1.out hK16
  obtain ⟨ga, hga⟩ : ∃ ga, ga = (Value.slice ao3 M.length cap3).ownBlock := ⟨_, rfl⟩
  have hlow : ∀ k, ga = some k → w1.heap.size ≤ k := fun k hk => own_new O2.out k (by rw [← hga]; exact hk)
  have hhigh : ∀ k, ga = some k → k < w2.heap.size := fun k hk => by
    rcases O2.out.2 with ⟨e, h0⟩ | ⟨g, cap', cur, e, _, h3, _⟩
    · rw [hga, e] at hk; cases hk
    · rw [hga, e] at hk
      simp only [Value.ownBlock, Option.some.injEq] at hk
      have := (Array.getElem?_eq_some_iff.1 h3).1
      omega
  have hmk : Marks w6 w6 ga (.slice ao3 M.length cap3) M := by
    refine ⟨grown_refl _ _, ?_, fun k hk => .inl (by rw [hga]; exact hk)⟩
    have h0 := own_low O2.out (Nat.zero_le _)
    refine ⟨h0.1, ?_⟩
    rcases h0.2 with h9 | ⟨g, cap, cur, h1, h2, h3, h4⟩
    · exact .inl h9
    · exact .inr ⟨g, cap, cur, h1, h2, by rw [hK26.block g (Array.getElem?_eq_some_iff.1 h3).1]; exact h3, h4⟩
  have hfin : ∀ W, w6.grownBy W ga → Below w.heap.size w W ∧ LabsAt W ao l ∧ LabsAt W ao1 l ∧ LabsAt W ao4 M ∧ LabsAt W ao7 M := fun W hg => by
    refine ⟨hK06.grown hg hK06.size (fun k hk => Nat.le_trans B1.out.size (hlow k hk)), ?_, ?_, ?_, ?_⟩
    · exact L0.out.low hK06 hg (fun k hk => Nat.le_trans B1.out.size (hlow k hk))
    · exact L1.out.low hK16 hg hlow
    · exact ((((L3.out.below K4.out (Nat.le_refl _)).below K5.out (Nat.le_refl _))).below K6.out (Nat.le_refl _)).high hg (fun b off e => own_new O3.out b (by rw [e]; rfl)) hhigh
    · exact (L5.out.below K6.out (Nat.le_refl _)).high hg (fun b off e => Nat.le_trans (Nat.le_trans K3.out.size K4.out.size) (N5.out b (by rw [e]; rfl))) hhigh
  have HFIN := Lib.hid hfin
  have HMK := Lib.hid hmk
  clear hK26 hK16 hK06 hga hlow hhigh hmk hfin
  go_loopg [38] M.length (fun r i wr => ∃ (k : Nat) (lk : List Lab), Hid (k + r = M.length) ∧ k ≤ M.length ∧ i = .int .i64 (k : Int) ∧ Hid (lk.length = M.length) ∧ Hid (Marks w6 wr ga (.slice ao3 M.length cap3) lk))
  case atStart => exact ⟨0, M, Nat.zero_add _, Nat.zero_le _, rfl, rfl, HMK.out⟩
  case round =>
    obtain ⟨k, lk, hE, hk, rfl, HLK, HMR⟩ := hrel
    have hm8 := HM.out
    by_cases hlt : k < M.length
    · obtain ⟨g, rfl, _, hcells, hfz⟩ := HMR.out.shape (by rw [HLK.out]; omega)
      obtain ⟨c0, c1⟩ := hcells k (by rw [HLK.out]; exact hlt)
      have z0 := hfz (k * 2)
      have z1 := hfz (k * 2 + 1)
      clear hcells hfz
      go_wp2_with fail
      go_roundg (M.length - (k + 1))
      case measure => have := hE.out; omega
      case rel => exact ⟨k + 1, lk.set k mark, by show _ = _; omega, by omega, by go_num, by show _ = _; rw [List.length_set]; exact HLK.out, HMR.out.stored k mark⟩
    · obtain rfl : k = M.length := by omega
      go_wp2_with fail
      go_loopg [4, 46] 3 (fun r q i wx => ∃ (t : Nat) (lx : List Lab) (ax : Option Addr) (cx n : Nat), Hid (t + r = 3) ∧ t ≤ 3 ∧ i = .int .i64 (t : Int) ∧ q = .slice ax n cx ∧ Hid (n = M.length + t) ∧ Hid (lx.length = n) ∧ Hid (Marks w6 wx ga (.slice ax n cx) lx))
      case atStart => exact ⟨0, lk, ao3, cap3, M.length, rfl, by omega, rfl, rfl, rfl, HLK.out, HMR.out⟩
      case round =>
        obtain ⟨t, lx, ax, cx, n, hEt, ht, rfl, rfl, HN, HLX, HMX⟩ := hrel
        by_cases ht3 : t < 3
        · obtain ⟨ao', cap', w8, hrun, hm'⟩ := HMX.out.append grownL (by rw [HLX.out, HN.out]; omega)
          rw [HLX.out] at hrun hm'
          have HRun := Lib.hid hrun
          have HM2 := Lib.hid hm'
          clear hrun hm'
          go_wp2_with (at_builtin; refine Row.append_by rfl (.tmp 48) (.tmp 50) _ rfl _ _ rfl rfl HRun.out ?_)
          go_roundg (3 - (t + 1))
          case measure => have := hEt.out; omega
          case rel => exact ⟨t + 1, lx ++ [grownL], ao', cap', n + 1, by show _ = _; have := hEt.out; omega, by omega, by go_num, rfl, by show _ = _; have := HN.out; omega, by show _ = _; rw [List.length_append, HLX.out]; rfl, HM2.out⟩
        · obtain rfl : t = 3 := by omega
          obtain ⟨f0, f1, f2, f3, f4⟩ := HFIN.out _ HMX.out.grown
          obtain rfl : n = M.length + 3 := HN.out
          have F0 := Lib.hid f0
          have F1 := Lib.hid f1
          have F2 := Lib.hid f2
          have F3 := Lib.hid f3
          have F4 := Lib.hid f4
          clear f0 f1 f2 f3 f4
          go_wp2_with (go_at_call 18; ((with_reducible refine (H5.out _ _ _ _ _ F3.out F4.out).mono ?_); rintro e w9 ⟨rfl, n9, rfl⟩; have G0 := Lib.hid (below_drewN F0.out n9); have G1 := Lib.hid (show LabsAt (wr.drewN n9) _ _ from F1.out); have G2 := Lib.hid (show LabsAt (wr.drewN n9) _ _ from F2.out)))
          go_wp2_with (go_at_call 16; ((with_reducible refine (H3.out _ G1.out).mono ?_); rintro e w10 ⟨ao10, cap10, rfl, hrow⟩; obtain ⟨ao11, cap11, he, _, hlab⟩ := hrow.labs; injection he with he1 _ he2; subst he1 he2; have G3 := Lib.hid (le_below G0.out hrow.below); have G4 := Lib.hid (G2.out.below hrow.below (Nat.le_refl _)); have G5 := Lib.hid hlab; clear hrow hlab))
          go_wp2_with (go_at_call 18; ((with_reducible refine (H8.out _ _ _ _ _ G4.out G5.out).mono ?_); rintro e w11 ⟨rfl, n11, rfl⟩; have G6 := Lib.hid (below_drewN G3.out n11)))
          go_ret
          exact ⟨by first | rfl | exact ret_bool (by simp), G6.out⟩
end Go.Proofs.Ytlolhbhanjhkbaa.Lab
