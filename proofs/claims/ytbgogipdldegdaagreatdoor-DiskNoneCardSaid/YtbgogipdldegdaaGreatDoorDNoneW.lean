/-
  The law DiskNone: its walk. Own text.
-/
import Derived.Test.YtbgogipdldegdaaGreatDoorDLawOff3
namespace Go.Proofs.YtbgogipdldegdaaGreatDoor.Disk
open Go.RowKit Go Go.Proofs.YtbgogipdldegdaaGreatDoor.Base Go.Proofs.YtbgogipdldegdaaGreatDoor.Map

structure OpG where
  k : Int
  A : ByteArray
  B : ByteArray
  N : Int
  M : Int
  pv : Value
  dv : Value
  y : Bool
  l : List ByteArray

def OpG.cells (o : OpG) : Array Value := #[.int .i64 o.k, .string o.A, .string o.B, .int .i64 o.N, .int .i64 o.M, o.pv, o.dv, .bool o.y]
structure OpG.Ok (o : OpG) (w : World) : Prop where
  texts : TextsAt w o.pv o.l
  len : o.l.length * 16 ≤ 140737488355328
  a : o.A.size < 4611686018427387904
  b : o.B.size < 4611686018427387904
  data : ∃ a m c, o.dv = .slice a m c

theorem OpG.Ok.parts {o : OpG} {w : World} (h : o.Ok w) : ∃ a m c, o.pv = .slice a m c := by
  rcases h.texts with ⟨c, h, _⟩ | ⟨a, c, h, _⟩
  · exact ⟨_, _, _, h⟩
  · exact ⟨_, _, _, h⟩

theorem OpG.Ok.below {o : OpG} {w w2 : World} (h : o.Ok w) (hb : Below w.heap.size w w2) : o.Ok w2 := ⟨h.texts.below hb, h.len, h.a, h.b, h.data⟩

theorem step_off {w : World} {R : Nat} {E : Nat → Addr} (hd : Dark w E R w) (o : OpG) (ho : o.Ok w) (hk : o.k ≠ 13) :
    Calls Tryz.prog 11 #[.pointer none, .pointer (some ⟨R, 0, none⟩), .agg o.cells] w fun r w' => r = .returned (.bool true) ∧ Dark w E R w' := by
  obtain ⟨k, A, B, N, M, pv, dv, y, l⟩ := o
  obtain ⟨h1, h2, h3, h4, _⟩ := ho
  simp only at h1 h2 h3 h4 hk
  show Calls Tryz.prog 11 #[.pointer none, .pointer (some ⟨R, 0, none⟩), opV k A B N M pv dv y] w _
  by_cases k1 : k = 1
  · subst k1; exact step1_off hd A B h3 h4 N M pv dv y
  by_cases k2 : k = 2
  · subst k2; exact step2_off hd A B h3 h4 N M pv dv y
  by_cases k4 : k = 4
  · subst k4; exact step4_off hd A B h3 h4 N M pv dv y
  by_cases k5 : k = 5
  · subst k5; exact step5_off hd A B h3 h4 N M pv dv y
  by_cases k6 : k = 6
  · subst k6; exact step6_off hd A B h3 h4 N M pv dv y
  by_cases k7 : k = 7
  · subst k7; exact step7_off hd A B h3 h4 N M pv dv y
  by_cases k8 : k = 8
  · subst k8; exact step8_off hd A B h3 h4 N M pv dv y
  by_cases k9 : k = 9
  · subst k9; exact step9_off hd A B h3 h4 N M pv dv y
  by_cases k10 : k = 10
  · subst k10; exact step10_off hd A B h3 h4 N M pv dv y
  by_cases k11 : k = 11
  · subst k11; exact step11_off hd A B h3 h4 N M pv dv y
  by_cases k3 : k = 3
  · subst k3; exact step3_off hd A B h3 h4 N M pv dv y l h1 h2
  refine stepP_off pv dv y A B N M hd k ⟨k1, k2, k3, k4, k5, k6, k7, k8, k9, k10, k11⟩ (fun W hW => ?_) h3 h4
  by_cases k12 : k = 12
  · subst k12; exact power12_off hW A B h3 h4 N M pv dv y
  by_cases k14 : k = 14
  · subst k14; exact power14_off hW A B h3 h4 N M pv dv y
  exact powerX_off hW k k12 hk k14 A B h3 h4 N M pv dv y

/-- a script that came in -/
def OpsAt (w : World) (ao : Option Addr) (n : Nat) (ops : Nat → OpG) : Prop :=
  ∀ j, j < n → ∃ b off, ao = some ⟨b, off, none⟩ ∧ b < w.heap.size ∧ (∀ i, i < 8 → w.cell? ⟨b, off + (j * 8 + i), none⟩ = (ops j).cells[i]?) ∧ (ops j).Ok w

set_option maxRecDepth 100000 in
set_option maxHeartbeats 4000000 in
theorem none_walk (w : World) (E : Nat → Addr) (he : Env w E) (h8 : 8 ≤ w.heap.size) (ao : Option Addr) (n cap : Nat) (ops : Nat → OpG) (ho : OpsAt w ao n ops) (hn : n < 4611686018427387904) :
    Calls Tryz.prog 6 #[.slice ao n cap] w fun r w' => r = .returned (.bool true) ∧ Below w.heap.size w w' := by
  have HE := Lib.hid he
  have H8 := Lib.hid h8
  have HO := Lib.hid ho
  clear he h8 ho
  go_enter Tryz.func6, Tryz.ntmps6
  go_wp2_with fail
  obtain ⟨W0, hW0⟩ : ∃ W0, W0 = w.alloc (.cells #[.slice none 0 0, .slice none 0 0, .slice none 0 0, .slice none 0 0, .int .i64 0, .bool true, .int .i64 0] 43) := ⟨_, rfl⟩
  rw [← hW0]
  have hb0 : Below w.heap.size w W0 := by rw [hW0]; exact below_alloc _ _
  have hs0 : W0.heap.size = w.heap.size + 1 := by rw [hW0]; simp
  obtain ⟨R, hR⟩ : ∃ R, w.heap.size = R := ⟨_, rfl⟩
  have hd0 : Dark W0 E R W0 := ⟨env_below HE.out hb0, ⟨0, by rw [hW0, ← hR]; exact heap_alloc_new w _⟩, Turn.refl _ _, by rw [← hR]; exact H8.out⟩
  rw [hR] at hs0 ⊢
  have HRR := Lib.hid hR
  have HD0 := Lib.hid hd0
  have HB0 := Lib.hid hb0
  clear hW0 hb0 hd0 hR
  go_loopg [11] n (fun r i wr => ∃ (j : Nat), Hid (j + r = n) ∧ j ≤ n ∧ i = .int .i64 (j : Int) ∧ Hid (Dark W0 E R wr))
  case atStart => exact ⟨0, Nat.zero_add _, Nat.zero_le _, rfl, HD0.out⟩
  case round =>
    obtain ⟨j, hE, hj, rfl, HD⟩ := hrel
    have hbw : Below w.heap.size w wr := by
      have ht := HD.out.turn
      refine HB0.out.trans (ht.below (by rw [HRR.out]; omega) fun i hi e => ?_)
      have := HRR.out
      omega
    have HBW := Lib.hid hbw
    by_cases hlt : j < n
    · obtain ⟨b, off, rfl, hbl, hc, hok⟩ := HO.out j hlt
      obtain ⟨o, hoe⟩ : ∃ o, ops j = o := ⟨_, rfl⟩
      rw [hoe] at hc hok
      have hok2 := hok.below hbw
      have hcc : ∀ i, i < 8 → wr.cell? ⟨b, off + (j * 8 + i), none⟩ = o.cells[i]? := fun i hi => by
        rw [hbw.cell hbl]; exact hc i hi
      obtain ⟨k, A, B, N, M, pv, dv, y, l⟩ := o
      have d0 : wr.cell? ⟨b, off + j * 8, none⟩ = some (.int .i64 k) := hcc 0 (by omega)
      have d1 : wr.cell? ⟨b, off + j * 8 + 1, none⟩ = some (.string A) := by rw [Nat.add_assoc]; exact hcc 1 (by omega)
      have d2 : wr.cell? ⟨b, off + j * 8 + 2, none⟩ = some (.string B) := by rw [Nat.add_assoc]; exact hcc 2 (by omega)
      have d3 : wr.cell? ⟨b, off + j * 8 + 3, none⟩ = some (.int .i64 N) := by rw [Nat.add_assoc]; exact hcc 3 (by omega)
      have d4 : wr.cell? ⟨b, off + j * 8 + 4, none⟩ = some (.int .i64 M) := by rw [Nat.add_assoc]; exact hcc 4 (by omega)
      have d5 : wr.cell? ⟨b, off + j * 8 + 5, none⟩ = some pv := by rw [Nat.add_assoc]; exact hcc 5 (by omega)
      have d6 : wr.cell? ⟨b, off + j * 8 + 6, none⟩ = some dv := by rw [Nat.add_assoc]; exact hcc 6 (by omega)
      have d7 : wr.cell? ⟨b, off + j * 8 + 7, none⟩ = some (.bool y) := by rw [Nat.add_assoc]; exact hcc 7 (by omega)
      obtain ⟨pa, pn, pc, hpv⟩ := hok2.parts
      obtain ⟨da, dn, dc, hdv⟩ := hok2.data
      simp only at hpv hdv
      subst hpv hdv
      have HOK := Lib.hid hok2
      clear hc hok hok2 hcc hbl hbw hoe
      obtain ⟨W2, hW2⟩ : ∃ W2, W2 = wr.alloc (.cells #[.int .i64 k, .string A, .string B, .int .i64 N, .int .i64 M, .slice pa pn pc, .slice da dn dc, .bool y] 31) := ⟨_, rfl⟩
      have hb2 : Below wr.heap.size wr W2 := by rw [hW2]; exact below_alloc _ _
      have hd2 := HD.out.below hb2
      have hRl : R < wr.heap.size := HD.out.ref.lt
      have hcb : ∀ W, Turn (fun q => q = R) W2 W → ∀ i, W.cell? ⟨wr.heap.size, i, none⟩ = (#[.int .i64 k, .string A, .string B, .int .i64 N, .int .i64 M, .slice pa pn pc, .slice da dn dc, .bool y] : Array Value)[i]? := fun W ht i => by
        have hblk : W2.heap[wr.heap.size]? = some (.cells #[.int .i64 k, .string A, .string B, .int .i64 N, .int .i64 M, .slice pa pn pc, .slice da dn dc, .bool y] 31) := by rw [hW2]; exact heap_alloc_new wr _
        have hlt2 : wr.heap.size < W2.heap.size := (Array.getElem?_eq_some_iff.1 hblk).1
        exact cell_of_row _ _ _ _ _ _ ((ht.block wr.heap.size hlt2 (fun e => by omega)).trans hblk)
      have HCB := Lib.hid hcb
      have HD2 := Lib.hid hd2
      have HB2 := Lib.hid hb2
      have f0 : W2.cell? ⟨wr.heap.size, 0, none⟩ = some (.int .i64 k) := hcb W2 (Turn.refl _ _) 0
      have f1 : W2.cell? ⟨wr.heap.size, 1, none⟩ = some (.string A) := hcb W2 (Turn.refl _ _) 1
      have f2 : W2.cell? ⟨wr.heap.size, 2, none⟩ = some (.string B) := hcb W2 (Turn.refl _ _) 2
      have f3 : W2.cell? ⟨wr.heap.size, 3, none⟩ = some (.int .i64 N) := hcb W2 (Turn.refl _ _) 3
      have f4 : W2.cell? ⟨wr.heap.size, 4, none⟩ = some (.int .i64 M) := hcb W2 (Turn.refl _ _) 4
      have f5 : W2.cell? ⟨wr.heap.size, 5, none⟩ = some (.slice pa pn pc) := hcb W2 (Turn.refl _ _) 5
      have f6 : W2.cell? ⟨wr.heap.size, 6, none⟩ = some (.slice da dn dc) := hcb W2 (Turn.refl _ _) 6
      have f7 : W2.cell? ⟨wr.heap.size, 7, none⟩ = some (.bool y) := hcb W2 (Turn.refl _ _) 7
      have hrs := restart_nil
      clear hcb hd2 hb2
      by_cases hk : k = 13
      · have hk1 : (k != 13) = false := by simp [hk]
        subst hk
        go_upto_region 6 with fail
        rw [← hW2]
        clear hW2
        go_wp2_with (go_at_call 13; refine (hrs _ _ _ _).mono ?_; rintro r w4 ⟨rfl, rfl⟩)
        go_roundg (n - (j + 1))
        case measure => have := hE.out; omega
        case rel => exact ⟨j + 1, by show _ = _; have := hE.out; omega, by omega, by go_num, HD2.out⟩
      · have hk1 : (k != 13) = true := by simp [hk]
        have hst := step_off (w := W2) ⟨HD2.out.env, HD2.out.ref, Turn.refl _ _, HD2.out.high⟩ ⟨k, A, B, N, M, .slice pa pn pc, .slice da dn dc, y, l⟩ (HOK.out.below HB2.out) hk
        have HST := Lib.hid hst
        clear hst
        go_upto_region 6 with fail
        rw [← hW2]
        clear hW2
        go_wp2_with (first
          | (go_at_call 11; (refine HST.out.mono ?_; rintro r w3 ⟨rfl, hd3⟩; have e3 : w3.cell? ⟨wr.heap.size, 3, none⟩ = some (.int .i64 N) := HCB.out w3 hd3.turn 3; have e6 : w3.cell? ⟨wr.heap.size, 6, none⟩ = some (.slice da dn dc) := HCB.out w3 hd3.turn 6; have e7 : w3.cell? ⟨wr.heap.size, 7, none⟩ = some (.bool y) := HCB.out w3 hd3.turn 7))
          | (go_at_call 13; refine (hrs _ _ _ _).mono ?_; rintro r w4 ⟨rfl, rfl⟩))
        go_roundg (n - (j + 1))
        case measure => have := hE.out; omega
        case rel => exact ⟨j + 1, by show _ = _; have := hE.out; omega, by omega, by go_num, hd3.env, hd3.ref, HD2.out.turn.trans hd3.turn (fun _ _ h => h), hd3.high⟩
    · obtain rfl : j = n := by omega
      have hw := wakes_any wr E HD.out.env (by have := hbw.size; have := H8.out; omega)
      have hu := fun W => used_nil W
      have hf := fun W => off_nil W
      have HW := Lib.hid hw
      clear hlt hE hbw hw
      go_wp2_with (first
        | (go_at_call 10; ((with_reducible refine HW.out.mono ?_); rintro r w4 ⟨rfl, hb4⟩))
        | (go_at_call 15; refine (hu _).mono ?_; rintro r w5 ⟨rfl, rfl⟩)
        | (go_at_call 16; refine (hf _).mono ?_; rintro r w6 ⟨rfl, rfl⟩))
      go_ret
      have q := HBW.out
      exact ⟨rfl, q.trans (hb4.mono q.size)⟩

end Go.Proofs.YtbgogipdldegdaaGreatDoor.Disk
