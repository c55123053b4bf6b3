/-
  The laws' helpers: contracts of is, twin, wakes. Own text.
-/
import Derived.Test.YtcpkogboaniehaaSPack
import Derived.Test.YtcpkogboaniehaaSEnc
namespace Go.Proofs.Ytcpkogboaniehaa.Sym
open Go.RowKit Go Go.Proofs.Ytcpkogboaniehaa.Base Go.Proofs.Ytcpkogboaniehaa.Lab Go.Shelf Go.Sort Go.Proofs.Ytcpkogboaniehaa.Enc

set_option maxRecDepth 100000 in
theorem twin_any (ao : Option Addr) (cap : Nat) (l : List ByteArray) (w : World) (hl : l.length * 16 ≤ 140737488355328) (hT : TextsAt w ao l) :
    Calls Try.prog 9 #[.slice ao l.length cap] w fun e w' => ∃ ao' cap', e = .returned (.slice ao' l.length cap') ∧ StrRow w w' (.slice ao' l.length cap') l := by
  obtain ⟨ao', cap', w1, hrun, hR⟩ := (StrRow.nil w).append (Below.refl _ _) _ l (src_texts (cap := cap) hT) (by simpa using hl)
  simp only [List.length_nil, Nat.zero_add, List.nil_append] at hrun hR
  have HRun := Lib.hid hrun
  have HR := Lib.hid hR
  clear hrun hR hT hl
  go_enter Try.func9, Try.ntmps9
  go_wp2_with (at_builtin; refine Row.append_by rfl (.const (.slice none 0 0)) (.tmp 3) _ rfl _ _ rfl rfl HRun.out ?_)
  go_ret
  exact ⟨_, _, rfl, HR.out⟩

theorem tS_at {T : List ByteArray} {k : Nat} (h : k < T.length) : tS T (k : Int) = T[k]! ∧ tE T (k : Int) = 0 := by
  unfold tS tE luS luE
  have h0 : ¬ (k : Int) < 0 := by omega
  rw [if_neg h0, if_neg h0, Int.toNat_natCast, if_pos h, if_pos h]
  exact ⟨rfl, rfl⟩

set_option maxRecDepth 100000 in
set_option maxHeartbeats 2000000 in
theorem is_any {p : Value} {T : List ByteArray} {ao : Option Addr} {cap : Nat} (w : World) (h : TabAt w p T ao cap) (bo : Option Addr) (cb : Nat) (hT : TextsAt w bo T) :
    Calls Try.prog 15 #[p, .slice bo T.length cb] w fun e w' => e = .returned (.bool true) ∧ Below w.heap.size w w' := by
  have H1 := Lib.hid (len_any w h)
  have H2 := Lib.hid fun (W : World) (hb : Below w.heap.size w W) (k : Nat) (hk : k ≤ 9223372036854775807) => txt_any W (h.below hb (Nat.le_refl _)) (k : Int) (by omega)
  have H3 := Lib.hid fun (W : World) (hb : Below w.heap.size w W) (s : ByteArray) => number_any W (h.below hb (Nat.le_refl _)) s
  have HT := Lib.hid hT
  have HR := Lib.hid h.ris
  have hN : T.length < 4611686018427387904 := by have := h.small; omega
  clear h hT
  go_enter Try.func15, Try.ntmps15
  go_wp2_with (go_at_call 27; ((with_reducible refine H1.out.mono ?_); rintro e w1 ⟨rfl, rfl⟩))
  go_loopg [18] T.length (fun r i wr => ∃ (k : Nat), Hid (k + r = T.length) ∧ k ≤ T.length ∧ i = .int .i64 (k : Int) ∧ Hid (Below w.heap.size w wr))
  case atStart => exact ⟨0, Nat.zero_add _, Nat.zero_le _, rfl, Below.refl _ _⟩
  case round =>
    obtain ⟨k, hE, hk, rfl, HB⟩ := hrel
    by_cases hlt : k < T.length
    · obtain ⟨b, off, rfl, hbw, q0⟩ := (HT.out.below HB.out (Nat.le_refl _)) k hlt
      have h2 := fun W hb => H2.out W hb k (by omega)
      rw [(tS_at hlt).1, (tS_at hlt).2] at h2
      have h3 := fun W hb => H3.out W hb T[k]!
      rw [(numE_at HR.out hlt).1, (numE_at HR.out hlt).2] at h3
      generalize T[k]! = x at *
      have G2 := Lib.hid h2
      have G3 := Lib.hid h3
      have e1 := str_eq (a := x) rfl
      clear h2 h3
      go_wp2_with (first
        | (go_at_call 11; ((with_reducible refine (G2.out _ HB.out).mono ?_); rintro e w2 ⟨rfl, rfl⟩))
        | (go_at_call 12; ((with_reducible refine (G3.out _ HB.out).mono ?_); rintro e w3 ⟨rfl, q, rfl⟩)))
      go_roundg (T.length - (k + 1))
      case measure => have := hE.out; omega
      case rel => exact ⟨k + 1, by show _ = _; omega, by omega, by go_num, below_drewN HB.out q⟩
    · obtain rfl : k = T.length := by omega
      go_wp2_with fail
      go_ret
      exact ⟨rfl, HB.out⟩

/-! ### the table that the document fixes -/

def wa : ByteArray := ⟨#[97]⟩
def wb : ByteArray := ⟨#[98]⟩
theorem w_tab : tab [wb, wa, wb] = [wa, wb] := by decide +kernel
theorem w_enc : encT [wa, wb] = ⟨#[2, 1, 97, 1, 98]⟩ := by decide +kernel
theorem w_set : setE [⟨wa, wb⟩] = 0 := by decide +kernel
theorem w_pack : pkS [wa, wb] [⟨wa, wb⟩] = (⟨#[1, 0, 1]⟩, 0) := by
  unfold pkS
  rw [if_neg (by rw [w_set]; decide)]
  decide +kernel

set_option maxRecDepth 100000 in
set_option maxHeartbeats 2000000 in
theorem wakes_any (w : World) : Calls Try.prog 14 #[] w fun e w' => e = .returned (.bool true) ∧ Below w.heap.size w w' := by
  have h1 := of_any (some ⟨w.heap.size, 0, none⟩) 3 [wb, wa, wb] (w.alloc (.cells #[.string ⟨#[98]⟩, .string ⟨#[97]⟩, .string ⟨#[98]⟩] 9)) (by decide) (by
    intro j hj
    refine ⟨w.heap.size, 0, rfl, by rw [World.size_alloc]; omega, ?_⟩
    match j, hj with
    | 0, _ => exact cell_new rfl rfl
    | 1, _ => exact cell_new rfl rfl
    | 2, _ => exact cell_new rfl rfl)
  rw [w_tab] at h1
  change Calls Try.prog 8 #[.slice (some ⟨w.heap.size, 0, none⟩) 3 3] _ _ at h1
  have h2 := fun (W : World) (p : Value) (ao : Option Addr) (cap : Nat) (h : TabAt W p [wa, wb] ao cap) => by
    have hp := pack_any (W.alloc (.cells #[.string ⟨#[97]⟩, .string ⟨#[98]⟩] 69)) (h.below (below_alloc _ _) (Nat.le_refl _)) (some ⟨W.heap.size, 0, none⟩) 1 [⟨wa, wb⟩] (by decide) (by decide) (by
      intro j hj
      refine ⟨W.heap.size, 0, rfl, by rw [World.size_alloc]; omega, ?_, ?_⟩
      all_goals
        match j, hj with
        | 0, _ => exact cell_new rfl rfl)
    rw [w_pack] at hp
    change Calls Try.prog 19 #[p, .slice (some ⟨W.heap.size, 0, none⟩) 1 1] _ _ at hp
    exact hp
  have h3 := fun (W W0 : World) (hb : Below W0.heap.size W0 W) (p : Value) (ao : Option Addr) (cap : Nat) (h : TabAt W0 p [wa, wb] ao cap) => by
    have hi := is_any (W.alloc (.cells #[.string ⟨#[97]⟩, .string ⟨#[98]⟩] 9)) (h.below (le_below hb (below_alloc _ _)) (Nat.le_refl _)) (some ⟨W.heap.size, 0, none⟩) 2 (by
    intro j hj
    refine ⟨W.heap.size, 0, rfl, by rw [World.size_alloc]; omega, ?_⟩
    match j, hj with
    | 0, _ => exact cell_new rfl rfl
    | 1, _ => exact cell_new rfl rfl)
    change Calls Try.prog 15 #[p, .slice (some ⟨W.heap.size, 0, none⟩) 2 2] _ _ at hi
    exact hi
  have h4 := fun (W : World) (p : Value) (ao : Option Addr) (cap : Nat) (h : TabAt W p [wa, wb] ao cap) => encode_any W h (fun k hk => by
    match k, hk with
    | 0, _ => decide
    | 1, _ => decide) (by rw [w_enc]; decide)
  rw [w_enc] at h4
  have H1 := Lib.hid h1
  have H2 := Lib.hid h2
  have H3 := Lib.hid h3
  have H4 := Lib.hid h4
  clear h1 h2 h3 h4
  have t1 := str_eq (a := ⟨#[2, 1, 97, 1, 98]⟩) rfl
  have t2 := str_eq (a := ⟨#[1, 0, 1]⟩) rfl
  go_enter Try.func14, Try.ntmps14
  go_wp2_with (go_at_call 8; ((with_reducible refine H1.out.mono ?_); rintro e w1 ⟨p, rfl, hN⟩; obtain ⟨ao, cap, ht⟩ := hN.tab; have T1 := Lib.hid ht; have B1 := Lib.hid (le_below (below_alloc w _) hN.below); clear hN ht))
  go_wp2_with (go_at_call 19; ((with_reducible refine (H2.out _ _ _ _ T1.out).mono ?_); rintro e w2 ⟨rfl, hb⟩; have C2 := Lib.hid (le_below (below_alloc w1 _) hb); have B2 := Lib.hid (le_below B1.out (le_below (below_alloc w1 _) hb)); clear hb))
  go_wp2_with (go_at_call 15; ((with_reducible refine (H3.out _ _ C2.out _ _ _ T1.out).mono ?_); rintro e w3 ⟨rfl, hb⟩; have C3 := Lib.hid (le_below C2.out (le_below (below_alloc w2 _) hb)); have B3 := Lib.hid (le_below B2.out (le_below (below_alloc w2 _) hb)); clear hb))
  go_wp2_with (go_at_call 25; ((with_reducible refine (H4.out _ _ _ _ (T1.out.below C3.out (Nat.le_refl _))).mono ?_); rintro e w4 ⟨rfl, hb⟩; have B4 := Lib.hid (le_below B3.out hb); clear hb))
  go_ret
  exact ⟨by first | rfl | exact ret_bool (by simp), B4.out⟩

end Go.Proofs.Ytcpkogboaniehaa.Sym
