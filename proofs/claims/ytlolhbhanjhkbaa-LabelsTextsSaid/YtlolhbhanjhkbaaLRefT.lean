/-
  A set out of its text in the document's answer: contract of Read. Own text.
-/
import Derived.Test.YtlolhbhanjhkbaaLRefU
import Derived.Test.YtlolhbhanjhkbaaLRefV
import Derived.Test.YtlolhbhanjhkbaaLRefD
namespace Go.Proofs.Ytlolhbhanjhkbaa.Lab
open Go.RowKit Go Go.Proofs.Ytlolhbhanjhkbaa.Base Go.Shelf Go.Sort Go.Proofs.Ytlolhbhanjhkbaa.Enc

theorem shown_sizes {s : ByteArray} {a n : Nat} {x : Lab} (ha : a ≤ s.size) (h : shown s a = some (x, n)) : x.n.size ≤ s.size ∧ x.v.size ≤ s.size := by
  have h1 := shown_one ha h
  have h2 := shown_le h
  have h3 := seg_length s a n h2.2
  have h4 := flat_ge (nums x.v)
  rw [h1, part_nums, List.length_append, nums_length, List.length_cons] at h3
  unfold quoteN at h3
  rw [List.length_cons, List.length_append] at h3
  rw [nums_length] at h4
  omega

set_option maxRecDepth 100000 in
set_option maxHeartbeats 8000000 in
theorem refRead_any (s : ByteArray) (hs : s.size ≤ 140737488351232) (w : World) :
    Calls Try.prog 30 #[.string s] w fun e w' => ∃ v, e = .returned (.tuple #[v, .int .i64 (readE s : Int)]) ∧ LabRow 66 w w' v (readS s) := by
  obtain ⟨R, hR⟩ : ∃ R, rlR s 8 0 [] = R := ⟨_, rfl⟩
  have hRN : R = none → readE s = 21 ∧ readS s = [] := fun h => by
    unfold readE readS
    rw [show readL s = R from hR, h]
    exact ⟨rfl, rfl⟩
  have hRV : ∀ l, R = some l → validB l = true → readE s = 0 ∧ readS s = l := fun l h hv => by
    unfold readE readS
    rw [show readL s = R from hR, h]
    simp only
    rw [if_pos hv, if_pos hv]
    exact ⟨rfl, rfl⟩
  have hRI : ∀ l, R = some l → validB l = false → readE s = 21 ∧ readS s = [] := fun l h hv => by
    unfold readE readS
    rw [show readL s = R from hR, h]
    simp only
    rw [if_neg (by rw [hv]; decide), if_neg (by rw [hv]; decide)]
    exact ⟨rfl, rfl⟩
  generalize readE s = E at *
  generalize readS s = L0 at *
  have HR := Lib.hid hR
  have HRN := Lib.hid hRN
  have HRV := Lib.hid hRV
  have HRI := Lib.hid hRI
  have hu := fun (b : Nat) (hb : b ≤ 140737488351233) W => refUnquote_any s b hs (by omega) W
  have HU := Lib.hid hu
  clear hR hRN hRV hRI hu
  go_enter Try.func30, Try.ntmps30
  go_wp2_with fail
  go_loopg [4, 5] 8 (fun r q i wr => ∃ (k a n cap : Nat) (ao : Option Addr) (S : List Lab), Hid (k + r = 8) ∧ k ≤ 8 ∧ a ≤ s.size ∧ i = .int .i64 (a : Int) ∧ q = .slice ao n cap ∧ Hid (n = k) ∧ Hid (S.length = n) ∧ Hid (rlR s r a S = R) ∧ Hid (LabRow 66 w wr q S) ∧ Hid (∀ x ∈ S, x.n.size ≤ s.size ∧ x.v.size ≤ s.size))
  case atStart => exact ⟨0, 0, 0, 0, none, [], rfl, by omega, Nat.zero_le _, rfl, rfl, rfl, rfl, HR.out, LabRow.nil _ w, fun x hx => by cases hx⟩
  case round =>
    obtain ⟨k, a, n, cap, ao, S, hE, hk, ha, rfl, rfl, HN, HSL, HRL, HS, HSZ⟩ := hrel
    have hn8 : n ≤ 8 := by rw [HN.out]; exact hk
    by_cases hk8 : k < 8
    · obtain ⟨t, rfl⟩ : ∃ t, gk = t + 1 := ⟨gk - 1, by have := hE.out; omega⟩
      have hn7 : n < 8 := by rw [HN.out]; exact hk8
      go_wp2_with fail
      go_loopg [6] s.size (fun r q wr' => ∃ (j : Nat), Hid (s.size ≤ j + r) ∧ a ≤ j ∧ j ≤ s.size ∧ q = .int .i64 (j : Int) ∧ Hid (fq s j = fq s a) ∧ wr' = wr)
      case atStart => exact ⟨a, by show _ ≤ _; omega, Nat.le_refl _, ha, rfl, rfl, rfl⟩
      case round =>
        obtain ⟨j, hJ, haj, hjs, rfl, HF, rfl⟩ := hrel
        by_cases hlt : j < s.size
        · have hj8 := at8_eq s j hlt
          by_cases h61 : at8 s j = 61
          · have hfa : fq s a = j := by rw [← HF.out]; exact fq_here hlt h61
            have e61 : ((s[j].toNat : Int) != 61) = false := by
              have : (s[j].toNat : Int) = 61 := by omega
              rw [this]; rfl
            have hcu := fun W => HU.out (j + 1) (by omega) W
            rw [(by omega : ((j + 1 : Nat) : Int) = (j : Int) + 1)] at hcu
            have hrl := HRL.out
            cases hu : unq s ((j : Int) + 1) with
            | none =>
              have hsn : shown s a = none := by unfold shown; rw [hfa, if_neg (by omega), hu]; rfl
              rw [rlR, hsn] at hrl
              obtain ⟨rfl, rfl⟩ := HRN.out hrl.symm
              rw [hu] at hcu
              simp only [oS, oM] at hcu
              have HCU := Lib.hid hcu
              clear hcu hu hsn hrl hj8 h61 hfa
              go_wp2_with (go_at_call 34; ((with_reducible refine (HCU.out _).mono ?_); rintro e w2 ⟨rfl, hb2⟩))
              go_ret2
              exact ⟨_, rfl, le_below HS.out.below hb2, World.ownsRow_nil _ _ _ _, fun k hk => by cases hk⟩
            | some p =>
              obtain ⟨l, m⟩ := p
              have hsn : shown s a = some (⟨s.extract a j, strN l⟩, m) := by unfold shown; rw [hfa, if_neg (by omega), hu]; rfl
              obtain ⟨z1, z2⟩ := shown_le hsn
              obtain ⟨z3, z4⟩ := shown_sizes ha hsn
              rw [rlR, hsn] at hrl
              simp only at hrl z3 z4
              rw [hu] at hcu
              simp only [oS, oM] at hcu
              generalize strN l = V at hcu hrl z4
              have hap : ∀ N, s.extract a j = N → ∀ W, Below wr.heap.size wr W → ∃ ao' cap' w9, (Builtin.append_ #[27, 27] 27 #[.slice ao n cap, .slice (some ⟨W.heap.size, 0, none⟩) 1 1]).run Try.prog (W.alloc (.cells #[.string N, .string V] 66)) = .ok (.slice ao' (n + 1) cap') w9 ∧ LabRow 66 w w9 (.slice ao' (n + 1) cap') (S ++ [Lab.mk N V]) := fun N hN W hW => by
                have hsrc : Src Try.prog 2 27 (.slice (some ⟨W.heap.size, 0, none⟩) 1 1) 1 (cellsL [Lab.mk N V]) (W.alloc (.cells #[.string N, .string V] 66)) := by
                  refine Src.ofSlice _ Try.underlying27 _ 1 1 _ rfl ?_ (cellsL_one _)
                  intro j u hu
                  rw [Go.WideShapes.add_plain, Nat.zero_add]
                  exact cell_new rfl (by simpa [cellsL, Lab.cells] using hu)
                obtain ⟨ao', cap', w9, h1, h2⟩ := LabRow.append Try.underlying27 ref_info HS.out (le_below hW (below_alloc _ _)) _ [Lab.mk N V] hsrc (by rw [HSL.out]; simp only [List.length_cons, List.length_nil]; omega)
                rw [HSL.out] at h1 h2
                exact ⟨ao', cap', w9, h1, h2⟩
              obtain ⟨N, hN⟩ : ∃ N, s.extract a j = N := ⟨_, rfl⟩
              have hap2 := hap N hN
              rw [hN] at hrl z3
              have hsz2 : ∀ x ∈ S ++ [Lab.mk N V], x.n.size ≤ s.size ∧ x.v.size ≤ s.size := fun x hx => by
                rcases List.mem_append.1 hx with h | h
                · exact HSZ.out x h
                · rw [List.mem_singleton.1 h]; exact ⟨z3, z4⟩
              have hlen : (S ++ [Lab.mk N V]).length = n + 1 := by rw [List.length_append, HSL.out]; rfl
              have HAP := Lib.hid hap2
              have HCU := Lib.hid hcu
              have HX := Lib.hid hN
              by_cases e0 : m = s.size
              · rw [if_pos e0] at hrl
                have e1 : ((m : Int) == (s.size : Int)) = true := by rw [beq_iff_eq]; omega
                have hv := fun (W : World) (x : Option Addr) (cx : Nat) (hx : LabsAt W x (S ++ [Lab.mk N V])) => refValid_any x cx (S ++ [Lab.mk N V]) W (by omega) (fun q hq => by
                  rw [getElem!_pos _ q hq]
                  have := hsz2 _ (List.getElem_mem hq)
                  omega) hx
                rw [hlen] at hv
                cases hvb : validB (S ++ [Lab.mk N V])
                · obtain ⟨rfl, rfl⟩ := HRI.out _ hrl.symm hvb
                  rw [hvb] at hv
                  have HV := Lib.hid hv
                  have HLEN := Lib.hid hlen
                  clear hcu hu hsn hrl hj8 h61 hfa hap hap2 hsz2 hv e0 hvb hlen hN
                  go_wp2_with (first
                    | (go_at_call 34; ((with_reducible refine (HCU.out _).mono ?_); rintro e w2 ⟨rfl, hb2⟩; obtain ⟨ao', cap', w9, hrun, hR9⟩ := HAP.out _ hb2; have HRun := Lib.hid hrun; have HR9 := Lib.hid hR9; clear hrun hR9))
                    | (at_builtin; rw [HX.out]; refine Row.append_by rfl (.tmp 41) (.tmp 48) _ rfl _ _ rfl rfl HRun.out ?_)
                    | (go_at_call 20; (obtain ⟨ao2, cap2, he, _, hlab⟩ := HR9.out.labs; injection he with he1 _ he2; subst he1 he2; (with_reducible refine (HV.out _ _ _ hlab).mono ?_); rintro e w3 ⟨rfl, hb3⟩)))
                  go_ret2
                  exact ⟨_, rfl, le_below HR9.out.below hb3, World.ownsRow_nil _ _ _ _, fun k hk => by cases hk⟩
                · obtain ⟨rfl, rfl⟩ := HRV.out _ hrl.symm hvb
                  rw [hvb] at hv
                  have HV := Lib.hid hv
                  have HLEN := Lib.hid hlen
                  clear hcu hu hsn hrl hj8 h61 hfa hap hap2 hsz2 hv e0 hvb hlen hN
                  go_wp2_with (first
                    | (go_at_call 34; ((with_reducible refine (HCU.out _).mono ?_); rintro e w2 ⟨rfl, hb2⟩; obtain ⟨ao', cap', w9, hrun, hR9⟩ := HAP.out _ hb2; have HRun := Lib.hid hrun; have HR9 := Lib.hid hR9; clear hrun hR9))
                    | (at_builtin; rw [HX.out]; refine Row.append_by rfl (.tmp 41) (.tmp 48) _ rfl _ _ rfl rfl HRun.out ?_)
                    | (go_at_call 20; (obtain ⟨ao2, cap2, he, _, hlab⟩ := HR9.out.labs; injection he with he1 _ he2; subst he1 he2; (with_reducible refine (HV.out _ _ _ hlab).mono ?_); rintro e w3 ⟨rfl, hb3⟩)))
                  go_ret2
                  have hk9 := HR9.out.kept hb3
                  first | exact ⟨_, rfl, hk9⟩ | (rw [← HSL.out] at hk9; exact ⟨_, rfl, hk9⟩)
              · rw [if_neg e0] at hrl
                have e1 : ((m : Int) == (s.size : Int)) = false := by rw [beq_eq_false_iff_ne]; omega
                have hm : m < s.size := by omega
                have hm8 := at8_eq s m hm
                by_cases c0 : at8 s m = 44
                · rw [if_neg (fun h => h c0)] at hrl
                  have e2 : ((s[m].toNat : Int) != 44) = false := by
                    have : (s[m].toNat : Int) = 44 := by omega
                    rw [this]; rfl
                  have HRL2 := Lib.hid hrl
                  have HZ2 := Lib.hid hsz2
                  have HLEN := Lib.hid hlen
                  clear hcu hu hsn hrl hj8 h61 hfa hap hap2 hsz2 e0 c0 hm8 hlen hN
                  go_wp2_with (first
                    | (go_at_call 34; ((with_reducible refine (HCU.out _).mono ?_); rintro e w2 ⟨rfl, hb2⟩; obtain ⟨ao', cap', w9, hrun, hR9⟩ := HAP.out _ hb2; have HRun := Lib.hid hrun; have HR9 := Lib.hid hR9; clear hrun hR9))
                    | (at_builtin; rw [HX.out]; refine Row.append_by rfl (.tmp 41) (.tmp 48) _ rfl _ _ rfl rfl HRun.out ?_))
                  go_roundg t
                  case measure => omega
                  case rel => exact ⟨k + 1, m + 1, n + 1, cap', ao', S ++ [Lab.mk N V], by show _ = _; have := hE.out; omega, by omega, by omega, by first | rfl | go_num, rfl, by show _ = _; have := HN.out; omega, HLEN.out, HRL2.out, HR9.out, HZ2.out⟩
                · rw [if_pos c0] at hrl
                  obtain ⟨rfl, rfl⟩ := HRN.out hrl.symm
                  have e2 : ((s[m].toNat : Int) != 44) = true := by rw [bne_iff_ne]; omega
                  clear hcu hu hsn hrl hj8 h61 hfa hap hap2 hsz2 e0 c0 hm8 hlen hN
                  go_wp2_with (first
                    | (go_at_call 34; ((with_reducible refine (HCU.out _).mono ?_); rintro e w2 ⟨rfl, hb2⟩; obtain ⟨ao', cap', w9, hrun, hR9⟩ := HAP.out _ hb2; have HRun := Lib.hid hrun; have HR9 := Lib.hid hR9; clear hrun hR9))
                    | (at_builtin; rw [HX.out]; refine Row.append_by rfl (.tmp 41) (.tmp 48) _ rfl _ _ rfl rfl HRun.out ?_))
                  go_ret2
                  exact ⟨_, rfl, HR9.out.below, World.ownsRow_nil _ _ _ _, fun k hk => by cases hk⟩
          · have e61 : ((s[j].toNat : Int) != 61) = true := by rw [bne_iff_ne]; omega
            have hf := fq_next hlt h61
            have HF2 := Lib.hid (hf.symm.trans HF.out)
            clear hj8 h61 hf
            go_wp2_with fail
            go_roundg (s.size - (j + 1))
            case measure => have := hJ.out; omega
            case rel => exact ⟨j + 1, by show _ ≤ _; omega, by omega, by omega, by go_num, HF2.out, rfl⟩
        · obtain rfl : j = s.size := by omega
          have hfe : fq s a = s.size := by rw [← HF.out]; exact fq_end s
          have hsn : shown s a = none := by unfold shown; rw [if_pos (by omega)]
          have hrn : R = none := by rw [← HRL.out, rlR, hsn]
          obtain ⟨rfl, rfl⟩ := HRN.out hrn
          clear hfe hsn hrn
          go_wp2_with fail
          go_ret2
          exact ⟨_, rfl, HS.out.below, World.ownsRow_nil _ _ _ _, fun k hk => by cases hk⟩
    · obtain rfl : k = 8 := by omega
      obtain rfl : gk = 0 := by have := hE.out; omega
      obtain rfl : n = 8 := HN.out
      have hR0 : Hid (R = none) := by show _ = _; rw [← HRL.out]; rfl
      go_wp2_with fail
      go_loopg [6] s.size (fun r q wr' => ∃ (j : Nat), Hid (s.size ≤ j + r) ∧ a ≤ j ∧ j ≤ s.size ∧ q = .int .i64 (j : Int) ∧ Hid (fq s j = fq s a) ∧ wr' = wr)
      case atStart => exact ⟨a, by show _ ≤ _; omega, Nat.le_refl _, ha, rfl, rfl, rfl⟩
      case round =>
        obtain ⟨j, hJ, haj, hjs, rfl, HF, rfl⟩ := hrel
        by_cases hlt : j < s.size
        · have hj8 := at8_eq s j hlt
          by_cases h61 : at8 s j = 61
          · have hfa : fq s a = j := by rw [← HF.out]; exact fq_here hlt h61
            have e61 : ((s[j].toNat : Int) != 61) = false := by
              have : (s[j].toNat : Int) = 61 := by omega
              rw [this]; rfl
            obtain ⟨rfl, rfl⟩ := HRN.out hR0.out
            clear hj8 h61 hfa
            go_wp2_with fail
            go_ret2
            exact ⟨_, rfl, HS.out.below, World.ownsRow_nil _ _ _ _, fun k hk => by cases hk⟩
          · have e61 : ((s[j].toNat : Int) != 61) = true := by rw [bne_iff_ne]; omega
            have hf := fq_next hlt h61
            have HF2 := Lib.hid (hf.symm.trans HF.out)
            clear hj8 h61 hf
            go_wp2_with fail
            go_roundg (s.size - (j + 1))
            case measure => have := hJ.out; omega
            case rel => exact ⟨j + 1, by show _ ≤ _; omega, by omega, by omega, by go_num, HF2.out, rfl⟩
        · obtain rfl : j = s.size := by omega
          obtain ⟨rfl, rfl⟩ := HRN.out hR0.out
          go_wp2_with fail
          go_ret2
          exact ⟨_, rfl, HS.out.below, World.ownsRow_nil _ _ _ _, fun k hk => by cases hk⟩
end Go.Proofs.Ytlolhbhanjhkbaa.Lab
