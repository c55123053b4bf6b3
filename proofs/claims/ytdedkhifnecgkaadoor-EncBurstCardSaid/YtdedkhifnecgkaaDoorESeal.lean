/-
  Texts with their sum behind: contracts of Seal and Unseal, of the program and of the document's answer. Own text.
-/
import Derived.Test.YtdedkhifnecgkaaDoorEProg
import Derived.Deep.RegionWith
namespace Go.Proofs.YtdedkhifnecgkaaDoor.Enc
open Go.RowKit Go Go.Proofs.YtdedkhifnecgkaaDoor.Base

theorem crc_lt (s : ByteArray) : Poly.crc (nums s) < 4294967296 := Poly.crc_lt _ (nums_lt s)

/-- the sum's four bytes -/
def sumS (s : ByteArray) : ByteArray := strN (Poly.four (Poly.crc (nums s)))
theorem sumS_size (s : ByteArray) : (sumS s).size = 4 := by unfold sumS; rw [strN_size]; rfl

/-- a text with its sum behind -/
def sealS (s : ByteArray) : ByteArray := s ++ sumS s
theorem sealS_size (s : ByteArray) : (sealS s).size = s.size + 4 := by unfold sealS; rw [ByteArray.size_append, sumS_size]

/-- the sum of one text, alone in a row -/
theorem crc_one {g : Nat} {s : ByteArray} (W : World) (hT : Tab W) (hc : W.cell? ⟨g, 0, none⟩ = some (.string s)) (hs : s.size ≤ 281474976710656) :
    Calls Tryd.prog 25 #[.slice (some ⟨g, 0, none⟩) 1 1] W fun e w' => e = .returned (.int .u32 (Poly.crc (nums s) : Int)) ∧ ∃ n, w' = W.drewN n := by
  have h := crc_any (ao := some ⟨g, 0, none⟩) (len := 1) (cap := 1) (ps := fun _ => s) W hT (fun j hj => ⟨g, 0, rfl, World.block_lt_of_cell? W _ hc, by rw [show 0 + j = 0 from by omega]; exact hc, hs⟩) (by decide)
  simpa [cat] using h

theorem refSeal_any (s : ByteArray) (hs : s.size ≤ 140737488351232) (w : World) :
    Calls Tryd.prog 34 #[.string s] w fun e w' => e = .returned (.string (sealS s)) ∧ Below w.heap.size w w' := by
  have hl := crc_lt s
  have hz := sumS_size s
  have hf : ∀ W : World, Calls Tryd.prog 38 #[.int .u32 (Poly.crc (nums s) : Int)] W fun e w' => e = .returned (.string (sumS s)) ∧ Below W.heap.size W w' := fun W => refFour_any _ hl W
  have HF := Lib.hid hf
  have HC := Lib.hid (refCrc_any s hs)
  unfold sealS
  clear hf hl
  generalize sumS s = u at *
  generalize Poly.crc (nums s) = c at *
  go_enter Tryd.func34, Tryd.ntmps34
  go_wp2_with (first | (go_at_call 26; refine (HC.out _).mono ?_; rintro e w' ⟨rfl, rfl⟩) | (go_at_call 38; refine (HF.out _).mono ?_; rintro e w' ⟨rfl, hB⟩))
  go_ret
  exact ⟨rfl, hB⟩

theorem cell_new (w : World) (v : Value) (t : TypeId) : (w.alloc (.cells #[v] t)).cell? ⟨w.heap.size, 0, none⟩ = some v := by
  rw [World.cell?, heap_alloc_new]
  rfl

theorem Tab.alloc {w : World} (h : Tab w) (o : Obj) : Tab (w.alloc o) := h.below (below_alloc w o) (Nat.le_refl _)
theorem Tab.drew {w : World} (h : Tab w) : Tab w.drew := fun i hi => h i hi

theorem seal_any (s : ByteArray) (hs : s.size ≤ 140737488351232) (w : World) (hT : Tab w) :
    Calls Tryd.prog 33 #[.string s] w fun e w' => e = .returned (.string (sealS s)) ∧ Below w.heap.size w w' := by
  have hl := crc_lt s
  have hz := sumS_size s
  have hf : ∀ W : World, Calls Tryd.prog 37 #[.int .u32 (Poly.crc (nums s) : Int)] W fun e w' => e = .returned (.string (sumS s)) ∧ Below W.heap.size W w' := fun W => four_any _ hl W
  have HF := Lib.hid hf
  have hB0 := below_alloc w (.cells #[.string s] 9)
  have HC := Lib.hid (crc_one (g := w.heap.size) (s := s) (w.alloc (.cells #[.string s] 9)) (hT.below hB0 (Nat.le_refl _)) (cell_new _ _ _) (by omega))
  unfold sealS
  clear hf hl hT
  generalize sumS s = u at *
  generalize Poly.crc (nums s) = c at *
  go_enter Tryd.func33, Tryd.ntmps33
  go_wp2_with (first | (go_at_call 25; refine HC.out.mono ?_; rintro e w' ⟨rfl, n, rfl⟩) | (go_at_call 37; refine (HF.out _).mono ?_; rintro e w' ⟨rfl, hB⟩))
  go_ret
  exact ⟨rfl, below_then (below_drewN hB0 n) hB⟩

/-- the error of a text that is unsealed, and the body -/
def usE (s : ByteArray) : Nat := if s.size < 4 then 20 else if num s (s.size - 4) = Poly.crc (nums (s.extract 0 (s.size - 4))) then 0 else 22
def usS (s : ByteArray) : ByteArray := if usE s = 0 then s.extract 0 (s.size - 4) else ByteArray.empty

theorem at8_extract (s : ByteArray) (a b i : Nat) (h : a + i < b) : at8 (s.extract a b) i = at8 s (a + i) := by
  unfold at8
  rw [nums_extract, List.getD, List.getD, List.getElem?_take, if_pos (by omega), List.getElem?_drop]
theorem num_extract (s : ByteArray) (a b i : Nat) (h : a + i + 4 ≤ b) : num (s.extract a b) i = num s (a + i) := by
  unfold num
  rw [at8_extract _ _ _ _ (by omega), at8_extract _ _ _ _ (by omega), at8_extract _ _ _ _ (by omega), at8_extract _ _ _ _ (by omega)]
  rfl

theorem ne_nat (X C : Nat) : ((X : Int) != (C : Int)) = decide (X ≠ C) := by
  by_cases h : X = C
  · simp [h]
  · have h2 : ¬ (X : Int) = (C : Int) := by omega
    simp [h, h2]

set_option maxHeartbeats 2000000 in
theorem unseal_any (s : ByteArray) (hs : s.size ≤ 140737488351232) (w : World) (hT : Tab w) :
    Calls Tryd.prog 31 #[.string s] w fun e w' => e = .returned (.tuple #[.string (usS s), .int .i64 (usE s : Int)]) ∧ Below w.heap.size w w' := by
  by_cases h4 : s.size < 4
  · have e1 : usE s = 20 := by unfold usE; rw [if_pos h4]
    have e2 : usS s = ByteArray.empty := by unfold usS; rw [if_neg (by omega)]
    rw [e1, e2]
    clear e1 e2 hT
    have h4i : (s.size : Int) - 4 < 0 := by omega
    go_enter Tryd.func31, Tryd.ntmps31
    go_wp2
    go_ret2
    exact ⟨rfl, Below.refl _ _⟩
  · obtain ⟨n, hn⟩ : ∃ n, s.size = n + 4 := ⟨s.size - 4, by omega⟩
    have hni : (s.size : Int) - 4 = (n : Int) := by omega
    go_enter Tryd.func31, Tryd.ntmps31
    obtain ⟨X, hX⟩ : ∃ X, X = num s n := ⟨_, rfl⟩
    obtain ⟨C, hC⟩ : ∃ C, C = Poly.crc (nums (s.extract 0 n)) := ⟨_, rfl⟩
    obtain ⟨b, hb⟩ : ∃ b, b = s.extract 0 n := ⟨_, rfl⟩
    have hr : ∀ W : World, Calls Tryd.prog 39 #[.string (s.extract n (n + 4))] W fun e w' => e = .returned (.int .u32 (X : Int)) ∧ ∃ m, w' = W.drewN m := fun W => by
      have h := readFour_any (s.extract n (n + 4)) (by rw [ByteArray.size_extract]; omega) (by rw [ByteArray.size_extract]; omega) W
      rw [num_extract s n (n + 4) 0 (by omega), show num s (n + 0) = X from hX.symm] at h
      exact h
    have HR := Lib.hid hr
    have hbs : b.size ≤ 140737488351232 := by rw [hb, ByteArray.size_extract]; omega
    have hc : ∀ W : World, Tab W → W.cell? ⟨w.heap.size, 0, none⟩ = some (.string b) → Calls Tryd.prog 25 #[.slice (some ⟨w.heap.size, 0, none⟩) 1 1] W fun e w' => e = .returned (.int .u32 (C : Int)) ∧ ∃ n, w' = W.drewN n := fun W h1 h2 => by
      rw [hC, ← hb]
      exact crc_one W h1 h2 (by omega)
    have HC := Lib.hid hc
    have HT := Lib.hid hT
    have hB1 : ∀ k o m m', Below w.heap.size w ((((w.drewN k).alloc o).drewN m).drewN m') := fun k o m m' => below_drewN (below_drewN ((below_drewN (Below.refl _ w) k).alloc (Nat.le_refl _) o) m) m'
    have HB1 := Lib.hid hB1
    have hres : usE s = (if X = C then 0 else 22) ∧ usS s = (if X = C then b else ByteArray.empty) := by
      have e1 : usE s = (if X = C then 0 else 22) := by unfold usE; rw [if_neg h4, show s.size - 4 = n from by omega, ← hX, ← hC]
      refine ⟨e1, ?_⟩
      unfold usS
      rw [e1, show s.size - 4 = n from by omega, ← hb]
      by_cases h : X = C <;> simp [h]
    have HRes := Lib.hid hres
    have hb2 : s.extract 0 n = b := hb.symm
    clear hr hc hT hB1 hX hC hres hb
    go_upto_region 4 with (fail)
    go_cut [19] (fun v wx => v = .bool (decide (X ≠ C)) ∧ Below w.heap.size w wx)
    case first =>
      go_region_with (first
        | (go_at_call 39; refine (HR.out _).mono ?_; rintro e w' ⟨rfl, m, rfl⟩)
        | (go_at_call 25; refine (HC.out _ ?hTab ?hCell).mono ?_; (case hTab => (repeat (first | exact HT.out | apply Tab.alloc | apply Tab.drewN | apply Tab.drew))); (case hCell => exact cell_new _ _ _); rintro e w' ⟨rfl, m2, rfl⟩))
      all_goals
        go_wp2_with fail
        go_meet
        refine ⟨by rw [ne_nat], ?_⟩
        first
          | exact below_drewN ((below_drewN (Below.refl _ w) _).alloc (Nat.le_refl _) _) _
          | exact below_drewN ((Below.refl _ w).alloc (Nat.le_refl _) _) _
    case rest =>
      obtain ⟨rfl, hB⟩ := hcut
      by_cases h : X = C
      · have e1 : usE s = 0 := by rw [HRes.out.1, if_pos h]
        have e2 : usS s = b := by rw [HRes.out.2, if_pos h]
        have E1 := Lib.hid e1
        have E2 := Lib.hid e2
        clear e1 e2
        subst h
        go_wp2_with fail
        go_ret2
        refine ⟨?_, hB⟩
        rw [E1.out, E2.out]
        rfl
      · have e1 : usE s = 22 := by rw [HRes.out.1, if_neg h]
        have e2 : usS s = ByteArray.empty := by rw [HRes.out.2, if_neg h]
        have E1 := Lib.hid e1
        have E2 := Lib.hid e2
        clear e1 e2
        go_wp2_with fail
        go_ret2
        refine ⟨?_, hB⟩
        rw [E1.out, E2.out]
        rfl

theorem refUnseal_any (s : ByteArray) (hs : s.size ≤ 140737488351232) (w : World) :
    Calls Tryd.prog 32 #[.string s] w fun e w' => e = .returned (.tuple #[.string (usS s), .int .i64 (usE s : Int)]) ∧ Below w.heap.size w w' := by
  by_cases h4 : s.size < 4
  · have e1 : usE s = 20 := by unfold usE; rw [if_pos h4]
    have e2 : usS s = ByteArray.empty := by unfold usS; rw [if_neg (by omega)]
    rw [e1, e2]
    clear e1 e2
    have h4i : (s.size : Int) - 4 < 0 := by omega
    go_enter Tryd.func32, Tryd.ntmps32
    go_wp2
    go_ret2
    exact ⟨rfl, Below.refl _ _⟩
  · obtain ⟨n, hn⟩ : ∃ n, s.size = n + 4 := ⟨s.size - 4, by omega⟩
    have hni : (s.size : Int) - 4 = (n : Int) := by omega
    obtain ⟨X, hX⟩ : ∃ X, X = num s n := ⟨_, rfl⟩
    obtain ⟨C, hC⟩ : ∃ C, C = Poly.crc (nums (s.extract 0 n)) := ⟨_, rfl⟩
    obtain ⟨b, hb⟩ : ∃ b, b = s.extract 0 n := ⟨_, rfl⟩
    have hr : ∀ W : World, Calls Tryd.prog 40 #[.string s, .int .i64 (n : Int)] W fun e w' => e = .returned (.int .i64 (X : Int)) ∧ ∃ m, w' = W.drewN m := fun W => by
      rw [hX]
      exact refNumber_any s n (by omega) hs W
    have HR := Lib.hid hr
    have hbs : b.size ≤ 140737488351232 := by rw [hb, ByteArray.size_extract]; omega
    have hc : ∀ W : World, Calls Tryd.prog 26 #[.string b] W fun e w' => e = .returned (.int .u32 (C : Int)) ∧ W = w' := fun W => by
      rw [hC, ← hb]
      exact refCrc_any b hbs W
    have HC := Lib.hid hc
    have hCl : C < 4294967296 := by rw [hC]; exact crc_lt _
    have hres : usE s = (if X = C then 0 else 22) ∧ usS s = (if X = C then b else ByteArray.empty) := by
      have e1 : usE s = (if X = C then 0 else 22) := by unfold usE; rw [if_neg h4, show s.size - 4 = n from by omega, ← hX, ← hC]
      refine ⟨e1, ?_⟩
      unfold usS
      rw [e1, show s.size - 4 = n from by omega, ← hb]
      by_cases h : X = C <;> simp [h]
    have HRes := Lib.hid hres
    have hb2 : s.extract 0 n = b := hb.symm
    clear hr hc hX hC hres hb
    by_cases h : X = C
    · have hd : ((C : Int) != (X : Int)) = false := by simp [h]
      have e1 : usE s = 0 := by rw [HRes.out.1, if_pos h]
      have e2 : usS s = b := by rw [HRes.out.2, if_pos h]
      have E1 := Lib.hid e1
      have E2 := Lib.hid e2
      clear e1 e2 h
      go_enter Tryd.func32, Tryd.ntmps32
      go_wp2_with (first | (go_at_call 26; refine (HC.out _).mono ?_; rintro e w' ⟨rfl, rfl⟩) | (go_at_call 40; refine (HR.out _).mono ?_; rintro e w' ⟨rfl, m, rfl⟩))
      go_ret2
      refine ⟨?_, below_drewN (Below.refl _ _) _⟩
      rw [E1.out, E2.out]
      rfl
    · have hd : ((C : Int) != (X : Int)) = true := by simp; omega
      have e1 : usE s = 22 := by rw [HRes.out.1, if_neg h]
      have e2 : usS s = ByteArray.empty := by rw [HRes.out.2, if_neg h]
      have E1 := Lib.hid e1
      have E2 := Lib.hid e2
      clear e1 e2 h
      go_enter Tryd.func32, Tryd.ntmps32
      go_wp2_with (first | (go_at_call 26; refine (HC.out _).mono ?_; rintro e w' ⟨rfl, rfl⟩) | (go_at_call 40; refine (HR.out _).mono ?_; rintro e w' ⟨rfl, m, rfl⟩))
      go_ret2
      refine ⟨?_, below_drewN (Below.refl _ _) _⟩
      rw [E1.out, E2.out]
      rfl
end Go.Proofs.YtdedkhifnecgkaaDoor.Enc
