/-
  The law EncBurst: its walk. Own text.
-/
import Derived.Test.YtdedkhifnecgkaaDoorEBurst
import Derived.Deep.RegionWith
namespace Go.Proofs.YtdedkhifnecgkaaDoor.Enc
open Go.RowKit Go Go.Proofs.YtdedkhifnecgkaaDoor.Base

/-- the argument, in a box of its own -/
def Box (w : World) (b : Nat) (T : ByteArray) (A : Int) (M : Nat) : Prop :=
  w.cell? ⟨b, 0, none⟩ = some (.string T) ∧ w.cell? ⟨b, 1, none⟩ = some (.int .i64 A) ∧ w.cell? ⟨b, 2, none⟩ = some (.int .u32 (M : Int)) ∧ b < w.heap.size

theorem Box.below {w w' : World} {b : Nat} {T : ByteArray} {A : Int} {M : Nat} (h : Box w b T A M) (hb : Below w.heap.size w w') : Box w' b T A M := by
  obtain ⟨h0, h1, h2, h3⟩ := h
  refine ⟨?_, ?_, ?_, Nat.lt_of_lt_of_le h3 hb.size⟩
  · rw [hb.cell (p := ⟨b, 0, none⟩) h3]; exact h0
  · rw [hb.cell (p := ⟨b, 1, none⟩) h3]; exact h1
  · rw [hb.cell (p := ⟨b, 2, none⟩) h3]; exact h2

theorem box_new (w : World) (T : ByteArray) (A : Int) (M : Nat) : Box (w.alloc (.cells #[.string T, .int .i64 A, .int .u32 (M : Int)] 56)) w.heap.size T A M := by
  refine ⟨?_, ?_, ?_, by simp⟩ <;> rw [World.cell?, heap_alloc_new] <;> rfl

set_option maxHeartbeats 2000000 in
set_option maxRecDepth 100000 in
theorem burst_walk (T : ByteArray) (A : Int) (M : Nat) (w : World) (hT0 : T.size ≤ 140737488351232) (hM : M < 4294967296) (hT : Tab w) :
    Calls Tryd.prog 11 #[.agg #[.string T, .int .i64 A, .int .u32 (M : Int)]] w fun e w' => e = .returned (.bool true) ∧ Below w.heap.size w w' := by
  have h0 := below_alloc w (.cells #[.string T, .int .i64 A, .int .u32 (M : Int)] 56)
  have hb := box_new w T A M
  have hT1 := hT.alloc (.cells #[.string T, .int .i64 A, .int .u32 (M : Int)] 56)
  have H3 := Lib.hid wakes_any
  go_enter Tryd.func11, Tryd.ntmps11
  go_upto_region 1 with (fail)
  generalize (w.alloc (.cells #[.string T, .int .i64 A, .int .u32 (M : Int)] 56)) = w0 at *
  have HT1 := Lib.hid hT1
  have HB := Lib.hid hb
  clear hT hT1 hb
  go_upto_region 3 with ((go_at_call 14; refine (H3.out _ HT1.out).mono ?_; rintro e w1 ⟨rfl, h1⟩))
  obtain ⟨c0, c1, c2, c3⟩ := HB.out.below h1
  go_cut [3] (fun v wx => ∃ t : ByteArray, v = .string t ∧ 0 < t.size ∧ t.size ≤ 4001 ∧ wx = w1)
  case first =>
    clear c1 c2
    go_wp2_with fail
    all_goals
      go_meet
      refine ⟨_, rfl, ?_, ?_, rfl⟩
      · rw [ByteArray.size_append]
        exact Nat.lt_of_lt_of_le (show 0 < 1 by decide) (Nat.le_add_right _ _)
      · have hx1 : (⟨#[120]⟩ : ByteArray).size = 1 := rfl
        first
          | (rw [ByteArray.size_append, hx1, ByteArray.size_extract]; omega)
          | (rw [ByteArray.size_append, hx1]; omega)
  case rest =>
    obtain ⟨t, rfl, t1, t2, rfl⟩ := hcut
    clear c0 c1 c2 c3
    have hz := sealS_size t
    obtain ⟨fz, _, f2, _⟩ := frame_parts t t1 (by omega)
    have CS := Lib.hid (seal_any t (by omega))
    have CF : Hid (∀ W : World, Tab W → Calls Tryd.prog 27 #[.string t] W fun e w' => e = .returned (.tuple #[.string (frS t), .int .i64 0]) ∧ Below W.heap.size W w') := Lib.hid fun W hW => by
      have h := frame_any t (by omega) W hW
      rw [(frS_good t (by omega) (by omega)).1] at h
      exact h
    have CT := Lib.hid fun (a : Nat) (ha : a < 8 * (sealS t).size) (W : World) => turned_any (sealS t) a M (by omega) ha hM W
    have CU : Hid (∀ (L : List Nat) (m a : Nat), L.length = (sealS t).size → (∀ x ∈ L, x < 256) → m < 4294967296 → m ≠ 0 → Poly.le L = Poly.le (nums (sealS t)) ^^^ m * 2 ^ a → ∀ W : World, Tab W →
        Calls Tryd.prog 31 #[.string (strN L)] W fun e w' => e = .returned (.tuple #[.string ByteArray.empty, .int .i64 22]) ∧ Below W.heap.size W w') := Lib.hid fun L m a k1 k2 k3 k4 k5 W hW => by
      have h := unseal_any (strN L) (by rw [strN_size, k1, hz]; omega) W hW
      obtain ⟨e1, e2⟩ := seal_burst t L m a (by omega) k2 k3 k4 k5
      rw [e1, e2] at h
      exact h
    have CG : Hid (∀ (L : List Nat) (m a : Nat), L.length = (sealS t).size → (∀ x ∈ L, x < 256) → m < 4294967296 → m ≠ 0 → Poly.le L = Poly.le (nums (sealS t)) ^^^ m * 2 ^ a → ∀ W : World, Tab W →
        Calls Tryd.prog 29 #[.string ((frS t).extract 0 4 ++ strN L ++ (frS t).extract (t.size + 8) (t.size + 9)), .int .i64 0] W fun e w' => e = .returned (.tuple #[.string ByteArray.empty, .int .i64 0, .int .i64 22]) ∧ Below W.heap.size W w') := Lib.hid fun L m a k1 k2 k3 k4 k5 W hW => by
      obtain ⟨g1, g2, g3⟩ := frame_burst t L m a t1 (by omega) (by omega) k2 k3 k4 k5
      exact unframe_in _ 0 _ _ _ _ (by omega) g1 g2 (by omega) W hW
    have HT2 := Lib.hid (HT1.out.below h1 (Nat.le_refl _))
    have HZ := Lib.hid hz
    clear hT0
    generalize sealS t = Z at *
    generalize frS t = F at *
    go_upto_region 5 with ((go_at_call 33; refine (CS.out _ HT2.out).mono ?_; rintro e w2 ⟨rfl, h2⟩))
    have h12 := below_then h1 h2
    clear h1 h2
    obtain ⟨c0, c1, c2, c3⟩ := HB.out.below h12
    go_cut [5] (fun v wx => ∃ a : Nat, v = .int .i64 (a : Int) ∧ Hid (a < 8 * Z.size) ∧ wx = w2)
    case first =>
      clear c0 c2
      rcases Int.lt_or_le A 0 with hA | hA
      · go_wp2_with fail
        go_meet
        exact ⟨0, rfl, by show _ < _; omega, rfl⟩
      · obtain ⟨n, rfl⟩ := Int.eq_ofNat_of_zero_le hA
        rcases Nat.eq_zero_or_pos n with hn | hn
        · subst hn
          go_wp2_with fail
          go_meet
          exact ⟨0, rfl, by show _ < _; omega, rfl⟩
        · go_wp2_with fail
          go_meet
          refine ⟨n % (8 * (t.size + 4)), by simp, ?_, rfl⟩
          show _ < _
          rw [HZ.out]
          exact Nat.mod_lt _ (by omega)
    case rest =>
      obtain ⟨a, rfl, ha, rfl⟩ := hcut
      clear c0 c1
      have HT3 := Lib.hid (HT1.out.below h12 (Nat.le_refl _))
      go_upto_if 44 with ((go_at_call 35; refine (CT.out a ha.out _).mono ?_; rintro e w3 ⟨L, m, rfl, m1, m2, m3, m4, h3⟩))
      have h13 := below_then h12 h3
      have M2 := Lib.hid m2
      have M3 := Lib.hid m3
      have M4 := Lib.hid m4
      have M1 := Lib.hid m1
      clear h12 h3 c2 c3 m1 m2 m3 m4
      have HT4 := Lib.hid (HT1.out.below h13 (Nat.le_refl _))
      obtain ⟨z, hzz⟩ : ∃ z : Bool, nz m = z := ⟨_, rfl⟩
      rw [hzz]
      have HZZ := Lib.hid hzz
      clear hzz
      go_cut [] (fun wx => Below w0.heap.size w0 wx)
      case first =>
        cases z with
        | false =>
          go_wp2_with fail
          go_meet
          exact h13
        | true =>
          have hm0 : m ≠ 0 := of_decide_eq_true HZZ.out
          go_wp2_with (go_at_call 31; refine (CU.out L m a M2.out M3.out M1.out hm0 M4.out _ HT4.out).mono ?_; rintro e w4 ⟨rfl, h4⟩)
          go_meet
          exact below_then h13 h4
      case rest =>
        clear HT4 M1 M2 M3 M4 h13 HZZ
        have HT5 := Lib.hid (HT1.out.below hcut (Nat.le_refl _))
        go_upto_region 14 with ((go_at_call 27; refine (CF.out _ HT5.out).mono ?_; rintro e w5 ⟨rfl, h5⟩))
        have h15 := below_then hcut h5
        clear hcut h5
        obtain ⟨c0, c1, c2, c3⟩ := HB.out.below h15
        clear c0
        go_cut [5] (fun v wx => ∃ a : Nat, v = .int .i64 (a : Int) ∧ Hid (a < 8 * Z.size) ∧ wx = w5)
        case first =>
          clear c2
          have h95 : ((t.size : Int) + 9 - 5) = (t.size : Int) + 4 := by omega
          rcases Int.lt_or_le A 0 with hA | hA
          · go_wp2_with fail
            go_meet
            exact ⟨0, rfl, by show _ < _; omega, rfl⟩
          · obtain ⟨n, rfl⟩ := Int.eq_ofNat_of_zero_le hA
            rcases Nat.eq_zero_or_pos n with hn | hn
            · subst hn
              go_wp2_with fail
              go_meet
              exact ⟨0, rfl, by show _ < _; omega, rfl⟩
            · go_wp2_with fail
              go_meet
              refine ⟨n % (8 * (t.size + 4)), by simp, ?_, rfl⟩
              show _ < _
              rw [HZ.out]
              exact Nat.mod_lt _ (by omega)
        case rest =>
          obtain ⟨a', rfl, ha', rfl⟩ := hcut
          clear c1
          have hf2 : F.extract 4 (t.size + 8) = Z := f2
          have h91 : ((t.size : Int) + 9 - 1) = (t.size : Int) + 8 := by omega
          go_upto_region 15 with (fail)
          go_cut [12, 13] (fun u v wx => ∃ (L : List Nat) (m : Nat) (z : Bool), u = .string (strN L) ∧ v = .bool z ∧ Hid (nz m = z) ∧ Hid (m < 4294967296) ∧ Hid (L.length = Z.size) ∧ Hid (∀ x ∈ L, x < 256) ∧ Hid (Poly.le L = Poly.le (nums Z) ^^^ m * 2 ^ a') ∧ Below w0.heap.size w0 wx)
          case first =>
            have d1 : IntKind.i64.wrap ((t.size : Int) + 9 - 1) = (t.size : Int) + 8 := by rw [h91]; exact IntWalk.i64_in _ (by omega)
            have d2 : IntKind.i64.wrap ((t.size : Int) + 8) = (t.size : Int) + 8 := IntWalk.i64_in _ (by omega)
            go_region_with ((go_at_call 35; refine (CT.out a' ha'.out _).mono ?_; rintro e w6 ⟨L, m, rfl, m1, m2, m3, m4, h6⟩))
            all_goals
              go_wp2_with fail
              go_meet
              exact ⟨L, m, nz m, rfl, rfl, rfl, m1, m2, m3, m4, below_then (below_drewN h15 1) h6⟩
          case rest =>
            obtain ⟨L, m, z, rfl, rfl, HZZ, M1, M2, M3, M4, h16⟩ := hcut
            clear c2 c3 h15 hf2
            have HT6 := Lib.hid (HT1.out.below h16 (Nat.le_refl _)).drew
            cases z with
            | false =>
              go_wp2_with fail
              go_ret
              exact ⟨rfl, below_then h0 h16⟩
            | true =>
              have hm0 : m ≠ 0 := of_decide_eq_true HZZ.out
              have cG := Lib.hid (CG.out L m a' M2.out M3.out M1.out hm0 M4.out)
              clear hm0
              have d1 : IntKind.i64.wrap ((t.size : Int) + 9 - 1) = (t.size : Int) + 8 := by rw [h91]; exact IntWalk.i64_in _ (by omega)
              have d2 : IntKind.i64.wrap ((t.size : Int) + 8) = (t.size : Int) + 8 := IntWalk.i64_in _ (by omega)
              have hL : (strN L).size = t.size + 4 := by rw [strN_size, M2.out, HZ.out]
              go_upto_region 17 with (fail)
              go_region_with ((go_at_call 29; refine (cG.out _ HT6.out).mono ?_; rintro e w7 ⟨rfl, h7⟩))
              all_goals
                go_wp2_with fail
                go_ret
                exact ⟨rfl, below_then h0 (below_then (below_drewN h16 1) h7)⟩
end Go.Proofs.YtdedkhifnecgkaaDoor.Enc
