/-
  Tables as they lie in memory; contracts of list, Len, lookUp, Text, Number. Own text.
-/
import Derived.Test.YtcpkogboaniehaaSPure
import Derived.Test.YtcpkogboaniehaaLMem
import Derived.Shelf.Spec.SearchS
import Derived.Ground.Names2Prog
namespace Go.Proofs
open Go.Shelf
shelf_lay Lays2.n26 Nm2 26 at Try as Try.sSearch
end Go.Proofs
namespace Go.Proofs.Ytcpkogboaniehaa.Sym
open Go.RowKit Go Go.Proofs.Ytcpkogboaniehaa.Base Go.Proofs.Ytcpkogboaniehaa.Lab Go.Shelf

def strs (l : List ByteArray) : List Value := l.map Value.string
theorem strs_length (l : List ByteArray) : (strs l).length = l.length := by simp [strs]
theorem strs_append (l m : List ByteArray) : strs (l ++ m) = strs l ++ strs m := by simp [strs]
theorem strs_at {l : List ByteArray} {j : Nat} (h : j < l.length) : (strs l)[j]? = some (.string l[j]!) := by
  unfold strs
  rw [List.getElem?_map, List.getElem?_eq_getElem h, getElem!_pos l j h]
  rfl
theorem strs_one (l : List ByteArray) : ∀ u ∈ strs l, u.oneCell' = true := by
  intro u hu
  unfold strs at hu
  obtain ⟨x, _, rfl⟩ := List.mem_map.1 hu
  rfl

/-- the cells of a list of texts -/
def TextsAt (w : World) (ao : Option Addr) (l : List ByteArray) : Prop :=
  ∀ j, j < l.length → ∃ b off, ao = some ⟨b, off, none⟩ ∧ b < w.heap.size ∧ w.cell? ⟨b, off + j, none⟩ = some (.string l[j]!)
theorem TextsAt.below {w w' : World} {ao : Option Addr} {l : List ByteArray} {B : Nat} (h : TextsAt w ao l) (hb : Below B w w') (hB : w.heap.size ≤ B) : TextsAt w' ao l := fun j hj => by
  obtain ⟨b, off, h1, h2, h3⟩ := h j hj
  have hs := hb.size
  exact ⟨b, off, h1, by omega, (hb.cell (p := ⟨b, off + j, none⟩) (by show b < B; omega)).trans h3⟩
theorem TextsAt.nil (w : World) (ao : Option Addr) : TextsAt w ao [] := fun j hj => by cases hj
theorem TextsAt.spot {w : World} {ao : Option Addr} {l : List ByteArray} (h : TextsAt w ao l) (h0 : 0 < l.length) : ∃ b off, ao = some ⟨b, off, none⟩ ∧ b < w.heap.size ∧ ∀ j, j < l.length → w.cell? ⟨b, off + j, none⟩ = some (.string l[j]!) := by
  obtain ⟨b, off, h1, h2, _⟩ := h 0 h0
  refine ⟨b, off, h1, h2, fun j hj => ?_⟩
  obtain ⟨b', off', e, _, h3⟩ := h j hj
  rw [h1] at e
  injection e with e
  injection e with e1 e2
  subst e1 e2
  exact h3

/-- a table: where it lies, its texts, where they lie -/
inductive TabAt (w : World) : Value → List ByteArray → Option Addr → Nat → Prop
  | none : TabAt w (.pointer none) [] none 0
  | some (b : Nat) (ao : Option Addr) (cap : Nat) (T : List ByteArray) (hb : b < w.heap.size) (hc : w.cell? ⟨b, 0, Option.none⟩ = some (.slice ao T.length cap)) (ht : TextsAt w ao T) (hl : T.length * 16 ≤ 140737488355328) (hr : Ris T) : TabAt w (.pointer (some ⟨b, 0, Option.none⟩)) T ao cap
theorem TabAt.below {w w' : World} {p : Value} {T : List ByteArray} {ao : Option Addr} {cap B : Nat} (h : TabAt w p T ao cap) (hb : Below B w w') (hB : w.heap.size ≤ B) : TabAt w' p T ao cap := by
  have hs := hb.size
  cases h with
  | none => exact .none
  | some b ao cap T h1 h2 h3 h4 h5 => exact .some b ao cap T (by omega) ((hb.cell (p := ⟨b, 0, Option.none⟩) (by show b < B; omega)).trans h2) (h3.below hb hB) h4 h5
theorem TabAt.texts {w : World} {p : Value} {T : List ByteArray} {ao : Option Addr} {cap : Nat} (h : TabAt w p T ao cap) : TextsAt w ao T := by
  cases h with
  | none => exact TextsAt.nil _ _
  | some b ao cap T h1 h2 h3 h4 h5 => exact h3
theorem TabAt.small {w : World} {p : Value} {T : List ByteArray} {ao : Option Addr} {cap : Nat} (h : TabAt w p T ao cap) : T.length * 16 ≤ 140737488355328 := by
  cases h with
  | none => decide
  | some b ao cap T h1 h2 h3 h4 h5 => exact h4
theorem TabAt.ris {w : World} {p : Value} {T : List ByteArray} {ao : Option Addr} {cap : Nat} (h : TabAt w p T ao cap) : Ris T := by
  cases h with
  | none => exact List.Pairwise.nil
  | some b ao cap T h1 h2 h3 h4 h5 => exact h5

set_option maxRecDepth 100000 in
theorem list_any {p : Value} {T : List ByteArray} {ao : Option Addr} {cap : Nat} (w : World) (h : TabAt w p T ao cap) :
    Calls Try.prog 34 #[p] w fun e w' => e = .returned (.slice ao T.length cap) ∧ w = w' := by
  cases h with
  | none =>
    go_enter Try.func34, Try.ntmps34
    go_wp2_with fail
    go_ret
    exact ⟨rfl, rfl⟩
  | some b ao cap T h1 h2 h3 h4 h5 =>
    generalize T.length = n at *
    clear h3 h4 h5
    go_enter Try.func34, Try.ntmps34
    go_wp2_with fail
    go_ret
    exact ⟨rfl, rfl⟩

set_option maxRecDepth 100000 in
theorem len_any {p : Value} {T : List ByteArray} {ao : Option Addr} {cap : Nat} (w : World) (h : TabAt w p T ao cap) :
    Calls Try.prog 27 #[p] w fun e w' => e = .returned (.int .i64 (T.length : Int)) ∧ w = w' := by
  have HL := Lib.hid (list_any w h)
  clear h
  generalize T.length = n at *
  go_enter Try.func27, Try.ntmps27
  go_wp2_with (go_at_call 34; refine HL.out.mono ?_; rintro e w' ⟨rfl, rfl⟩)
  go_ret
  exact ⟨rfl, rfl⟩

def luS (T : List ByteArray) (k : Nat) : ByteArray := if k < T.length then T[k]! else ByteArray.empty
def luE (T : List ByteArray) (k : Nat) : Nat := if k < T.length then 0 else 50

set_option maxRecDepth 100000 in
theorem lookUp_any {p : Value} {T : List ByteArray} {ao : Option Addr} {cap : Nat} (w : World) (h : TabAt w p T ao cap) (k : Nat) :
    Calls Try.prog 32 #[p, .int .u64 (k : Int)] w fun e w' => e = .returned (.tuple #[.string (luS T k), .int .i64 (luE T k : Int)]) ∧ w = w' := by
  have HL := Lib.hid (list_any w h)
  have ht := h.texts
  have hs := h.small
  clear h
  by_cases hlt : k < T.length
  · obtain ⟨b, off, rfl, hb, hc⟩ := ht k hlt
    have e1 : luS T k = T[k]! := if_pos hlt
    have e2 : luE T k = 0 := if_pos hlt
    rw [e1, e2]
    generalize T[k]! = x at *
    generalize T.length = n at *
    have hn : n < 4611686018427387904 := by omega
    clear e1 e2 ht hs
    go_enter Try.func32, Try.ntmps32
    go_wp2_with (go_at_call 34; refine HL.out.mono ?_; rintro e w' ⟨rfl, rfl⟩)
    go_ret2
    exact ⟨rfl, rfl⟩
  · have e1 : luS T k = ByteArray.empty := if_neg hlt
    have e2 : luE T k = 50 := if_neg hlt
    rw [e1, e2]
    generalize T.length = n at *
    have hn : n < 4611686018427387904 := by omega
    have hge : n ≤ k := by omega
    clear e1 e2 ht hs hlt
    go_enter Try.func32, Try.ntmps32
    go_wp2_with (go_at_call 34; refine HL.out.mono ?_; rintro e w' ⟨rfl, rfl⟩)
    go_ret2
    exact ⟨rfl, rfl⟩

/-- the text with the number n -/
def tS (T : List ByteArray) (n : Int) : ByteArray := if n < 0 then ByteArray.empty else luS T n.toNat
def tE (T : List ByteArray) (n : Int) : Nat := if n < 0 then 50 else luE T n.toNat

set_option maxRecDepth 100000 in
theorem txt_any {p : Value} {T : List ByteArray} {ao : Option Addr} {cap : Nat} (w : World) (h : TabAt w p T ao cap) (n : Int) (hn : n ≤ 9223372036854775807) :
    Calls Try.prog 11 #[p, .int .i64 n] w fun e w' => e = .returned (.tuple #[.string (tS T n), .int .i64 (tE T n : Int)]) ∧ w = w' := by
  by_cases h0 : n < 0
  · have e1 : tS T n = ByteArray.empty := if_pos h0
    have e2 : tE T n = 50 := if_pos h0
    rw [e1, e2]
    clear e1 e2 h hn
    go_enter Try.func11, Try.ntmps11
    go_wp2_with fail
    go_ret2
    exact ⟨rfl, rfl⟩
  · have e1 : tS T n = luS T n.toNat := if_neg h0
    have e2 : tE T n = luE T n.toNat := if_neg h0
    obtain ⟨k, rfl⟩ := Int.eq_ofNat_of_zero_le (show 0 ≤ n by omega)
    rw [Int.toNat_natCast] at e1 e2
    rw [e1, e2]
    have HL := Lib.hid (lookUp_any w h k)
    generalize luS T k = x at *
    generalize luE T k = y at *
    clear e1 e2 h h0
    go_enter Try.func11, Try.ntmps11
    go_wp2_with (go_at_call 32; refine HL.out.mono ?_; rintro e w' ⟨rfl, rfl⟩)
    go_ret2
    exact ⟨rfl, rfl⟩

theorem search_any (ao : Option Addr) (cap : Nat) (T : List ByteArray) (s : ByteArray) (w : World) (hl : T.length * 16 ≤ 140737488355328) (hT : TextsAt w ao T) (hr : Ris T) :
    Calls Try.prog 33 #[.slice ao T.length cap, .string s] w fun e w' => e = .returned (.tuple #[.int .i64 (posS T s : Nat), .bool (decide (posS T s < T.length ∧ T[posS T s]! = s))]) ∧ ∃ q, w' = w.drewN q := by
  by_cases h0 : T.length = 0
  · obtain rfl : T = [] := List.eq_nil_of_length_eq_zero h0
    have h := Any2.slices_BinarySearch_string_empty Try.sSearch ao cap s w
    change Calls Try.prog 33 _ _ _ at h
    exact h.mono fun e w' ⟨h1, h2⟩ => ⟨h1.trans (by simp [posS]), 0, h2⟩
  · obtain ⟨b, off, rfl, hb, hc⟩ := hT.spot (by omega)
    have hS : ∀ j, j < T.length → (if j < T.length then T[j]! else s) = T[j]! := fun j hj => if_pos hj
    have h := Any2.slices_BinarySearch_string Try.sSearch b off T.length cap (fun t => if t < T.length then T[t]! else s) s w (by omega) (fun j hj => by show _ = some (Value.string (if j < T.length then T[j]! else s)); rw [hS j hj]; exact hc j hj)
    change Calls Try.prog 33 _ _ _ at h
    have hk := posS_le s T
    have hgo : Lib.bsGo (fun t => Op.bytesLess (if t < T.length then T[t]! else s).toList s.toList) T.length 0 T.length = posS T s := by
      refine Lib.bsGo_spec _ _ (fun t ht => ?_) (fun t ht => ?_) _ _ _ (by omega) (by omega) hk
      · show Op.bytesLess (if t < T.length then T[t]! else s).toList s.toList = true
        rw [if_pos (by omega), less_cmp]
        exact decide_eq_true (posS_lt s T t ht)
      · show Op.bytesLess (if t < T.length then T[t]! else s).toList s.toList = false
        rw [less_cmp]
        by_cases hlt : t < T.length
        · rw [if_pos hlt]; exact decide_eq_false (posS_ge hr s t ht hlt)
        · rw [if_neg hlt, cmpS_ord.refl]; rfl
    simp only [hgo] at h
    refine h.mono fun e w' ⟨h1, h2⟩ => ⟨h1.trans ?_, h2⟩
    by_cases hlt : posS T s < T.length
    · rw [hS _ hlt]
    · simp [hlt]

set_option maxRecDepth 100000 in
theorem number_any {p : Value} {T : List ByteArray} {ao : Option Addr} {cap : Nat} (w : World) (h : TabAt w p T ao cap) (s : ByteArray) :
    Calls Try.prog 12 #[p, .string s] w fun e w' => e = .returned (.tuple #[.int .i64 (numS T s : Int), .int .i64 (numE T s : Int)]) ∧ ∃ q, w' = w.drewN q := by
  have HL := Lib.hid (list_any w h)
  have hs := search_any ao cap T s w h.small h.texts h.ris
  have hlen := h.small
  have hle := posS_le s T
  clear h
  by_cases hin : posS T s < T.length ∧ T[posS T s]! = s
  · obtain ⟨e1, e2⟩ := numE_in hin
    rw [e1, e2]
    rw [decide_eq_true hin] at hs
    have HS := Lib.hid hs
    clear hs hin e1 e2
    generalize posS T s = k at *
    go_enter Try.func12, Try.ntmps12
    go_wp2_with (first
      | (go_at_call 34; refine HL.out.mono ?_; rintro e w' ⟨rfl, rfl⟩)
      | (go_at_call 33; refine HS.out.mono ?_; rintro e w' ⟨rfl, q, rfl⟩))
    go_ret2
    exact ⟨rfl, q, rfl⟩
  · obtain ⟨e1, e2⟩ := numE_out hin
    rw [e1, e2]
    rw [decide_eq_false hin] at hs
    have HS := Lib.hid hs
    clear hs hin e1 e2
    generalize posS T s = k at *
    go_enter Try.func12, Try.ntmps12
    go_wp2_with (first
      | (go_at_call 34; refine HL.out.mono ?_; rintro e w' ⟨rfl, rfl⟩)
      | (go_at_call 33; refine HS.out.mono ?_; rintro e w' ⟨rfl, q, rfl⟩))
    go_ret2
    exact ⟨rfl, q, rfl⟩

end Go.Proofs.Ytcpkogboaniehaa.Sym
