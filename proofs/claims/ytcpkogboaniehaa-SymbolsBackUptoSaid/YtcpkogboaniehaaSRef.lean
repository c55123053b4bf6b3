/-
  The document's answer for tables: contracts of find, Number, merge, Of. Own text.
-/
import Derived.Test.YtcpkogboaniehaaSOf
import Derived.Test.YtcpkogboaniehaaDRow
import Derived.Test.YtcpkogboaniehaaLLaw
namespace Go.Proofs.Ytcpkogboaniehaa.Sym
open Go.RowKit Go Go.Proofs.Ytcpkogboaniehaa.Base Go.Proofs.Ytcpkogboaniehaa.Lab Go.Shelf Go.Sort

theorem str_info : (Try.prog.info? 9).map (fun i => (i.zero, i.size, i.bytes)) = some (some (.string ⟨#[]⟩), 1, 16) := by kernel_rfl

/-- texts appended to a row of one's own; they may lie anywhere -/
theorem StrRow.append {w wr W : World} {v : Value} {l : List ByteArray} (h : StrRow w wr v l) (hW : Below wr.heap.size wr W) (x : Value) (m : List ByteArray) (hsrc : Src Try.prog 1 22 x m.length (strs m) W) (hl : (l.length + m.length) * 16 ≤ 140737488355328) :
    ∃ ao cap w', (Builtin.append_ #[22, 22] 22 #[v, x]).run Try.prog W = .ok (.slice ao (l.length + m.length) cap) w' ∧ StrRow w w' (.slice ao (l.length + m.length) cap) (l ++ m) := by
  obtain ⟨i0, hi, hz0, hz1, hz2⟩ := info_parts2 str_info
  have hk := h.kept hW
  obtain ⟨v', w', h1, h2, h3, h4⟩ := Row.append_src (P := Try.prog) W 22 22 22 9 i0 _ 1 16 Try.underlying22 hi hz0 hz1 hz2 rfl (by decide) v l.length _ hk.row _ m.length _ hsrc (by unfold maxLen; omega) hl
  have hb : Below w.heap.size w w' := hk.below.grown h3 hk.below.size h.new
  have hnew : ∀ k, v'.ownBlock = some k → w.heap.size ≤ k := fun k hk2 => by
    rcases h4 with e | e
    · exact h.new k (by rw [← e]; exact hk2)
    · rw [hk2] at e
      injection e with e
      have := hk.below.size
      omega
  rw [← strs_append] at h2
  have h2' : w'.ownsRow 0 9 1 v' (l ++ m).length (strs (l ++ m)) := by rw [List.length_append]; exact h2
  rcases h2'.2 with ⟨e, h0⟩ | ⟨g, cap, cur, e, h5⟩
  · have hz : l.length + m.length = 0 := by rw [List.length_append] at h0; exact h0
    subst e
    exact ⟨none, 0, w', by rw [hz]; exact h1, hb, by rw [hz]; exact h2', by rw [hz]; exact hnew⟩
  · rw [List.length_append] at e
    subst e
    exact ⟨_, cap, w', h1, hb, h2', hnew⟩
theorem src_texts {w : World} {ao : Option Addr} {cap : Nat} {l : List ByteArray} (hT : TextsAt w ao l) : Src Try.prog 1 22 (.slice ao l.length cap) l.length (strs l) w := by
  by_cases h0 : l.length = 0
  · obtain rfl : l = [] := List.eq_nil_of_length_eq_zero h0
    cases ao with
    | none => exact Src.ofNil w Try.underlying22 cap
    | some a => exact Src.ofSlice w Try.underlying22 a 0 cap [] rfl (fun j u hj => by cases hj) (fun u hu => by cases hu)
  · obtain ⟨b, off, rfl, hb, hc⟩ := hT.spot (by omega)
    refine Src.ofSlice w Try.underlying22 _ l.length cap _ (by rw [strs_length, Nat.mul_one]) ?_ (strs_one l)
    intro j u hj
    have hjl : j < l.length := by
      rcases Nat.lt_or_ge j l.length with h | h
      · exact h
      · rw [List.getElem?_eq_none (by rw [strs_length]; omega)] at hj; cases hj
    rw [Go.WideShapes.add_plain, hc j hjl, ← strs_at hjl, hj]
/-- one text, in the row that the call builds for it -/
theorem src_one (W : World) (x : ByteArray) : Src Try.prog 1 22 (.slice (some ⟨W.heap.size, 0, none⟩) 1 1) 1 (strs [x]) (W.alloc (.cells #[.string x] 9)) := by
  refine Src.ofSlice _ Try.underlying22 _ 1 1 _ rfl ?_ (strs_one _)
  intro j u hu
  rw [Go.WideShapes.add_plain, Nat.zero_add]
  exact cell_new rfl (by simpa [strs] using hu)

set_option maxRecDepth 100000 in
set_option maxHeartbeats 1000000 in
theorem find_any (ao : Option Addr) (cap : Nat) (T : List ByteArray) (s : ByteArray) (w : World) (hl : T.length * 16 ≤ 140737488355328) (hT : TextsAt w ao T) (hr : Ris T) :
    Calls Try.prog 35 #[.slice ao T.length cap, .string s] w fun e w' => e = .returned (.int .i64 (posS T s : Nat)) ∧ ∃ q, w' = w.drewN q := by
  have hle := posS_le s T
  have HLT := Lib.hid (posS_lt s T)
  have HGE := Lib.hid (posS_ge hr s)
  have HT := Lib.hid hT
  obtain ⟨R, hR⟩ : ∃ R, posS T s = R := ⟨_, rfl⟩
  rw [hR] at hle HLT HGE ⊢
  have HN := Lib.hid hl
  clear hT hr hR hl
  have HLE := Lib.hid hle
  clear hle
  go_enter Try.func35, Try.ntmps35
  go_wp2_with fail
  go_loopg [5, 6] T.length (fun g lo hi wr => ∃ (a b : Nat) (q : Nat), lo = .int .i64 (a : Int) ∧ hi = .int .i64 (b : Int) ∧ Hid (a ≤ R) ∧ Hid (R ≤ b) ∧ Hid (b ≤ T.length) ∧ Hid (b - a ≤ g) ∧ wr = w.drewN q)
  case atStart => exact ⟨0, T.length, 0, rfl, rfl, Nat.zero_le _, HLE.out, Nat.le_refl _, Nat.le_refl _, rfl⟩
  case round =>
    obtain ⟨a, b, q, rfl, rfl, HA, HB, HBN, HG, rfl⟩ := hrel
    have hN : T.length < 4611686018427387904 := by have := HN.out; omega
    have hbn := HBN.out
    by_cases hlt : a < b
    · obtain ⟨m, hm⟩ : ∃ m, (b - a) / 2 = m := ⟨_, rfl⟩
      have hq : ((b : Int) - (a : Int)).tdiv 2 = (m : Int) := by rw [Int.tdiv_eq_ediv_of_nonneg (by omega)]; omega
      have hq2 : ((b : Int) - (a : Int)) / 2 = (m : Int) := by omega
      have hml : a + m < b := by omega
      obtain ⟨bk, off, rfl, hbk, hc⟩ := HT.out (a + m) (by omega)
      have hc2 : (w.drewN q).cell? ⟨bk, off + (a + m), none⟩ = some (.string T[a + m]!) := hc
      have hw1 : IntKind.i64.wrap ((b : Int) - (a : Int)) = (b : Int) - (a : Int) := IntWalk.i64_in _ (by omega)
      have hw2 : IntKind.i64.wrap ((a : Int) + (m : Int)) = (a : Int) + (m : Int) := IntWalk.i64_in _ (by omega)
      have hlt2 : a + m < R → cmpS T[a + m]! s < 0 := HLT.out (a + m)
      have hge2 : R ≤ a + m → a + m < T.length → 0 ≤ cmpS T[a + m]! s := fun h1 h2 => by have := HGE.out (a + m) h1 h2; omega
      have hless := less_cmp T[a + m]! s
      obtain ⟨x, hx0⟩ : ∃ x, x = T[a + m]! := ⟨_, rfl⟩
      rw [← hx0] at hc2 hlt2 hge2 hless
      obtain ⟨k, hk⟩ : ∃ k, k = a + m := ⟨_, rfl⟩
      have hk2 : (a : Int) + (m : Int) = (k : Int) := by omega
      rw [← hk] at hc2 hlt2 hge2
      rw [hk2] at hw2
      have hkn : k < T.length := by omega
      have HAK := Lib.hid (show a ≤ k ∧ k < b by omega)
      have hsz := HG.out
      clear hx0 hc hk hm hml hbk
      by_cases hx : cmpS x s < 0
      · rw [decide_eq_true hx] at hless
        have hkR : k < R := by
          rcases Nat.lt_or_ge k R with h | h
          · exact h
          · have := hge2 h hkn; omega
        have HKR := Lib.hid hkR
        clear hkR hlt2 hge2 hx
        go_wp2_with fail
        go_roundg (b - (k + 1))
        case measure => have := HAK.out; omega
        case rel => exact ⟨k + 1, b, q, by go_num, rfl, by show _ ≤ _; have := HKR.out; omega, HB.out, HBN.out, by show _ ≤ _; omega, rfl⟩
      · rw [decide_eq_false hx] at hless
        have hkR : R ≤ k := by
          rcases Nat.lt_or_ge k R with h | h
          · exact absurd (hlt2 h) hx
          · exact h
        have HKR := Lib.hid hkR
        clear hkR hlt2 hge2 hx
        go_wp2_with fail
        go_roundg (k - a)
        case measure => have := HAK.out; omega
        case rel => exact ⟨a, k, q, rfl, rfl, HA.out, HKR.out, by show _ ≤ _; omega, by show _ ≤ _; omega, rfl⟩
    · have ha := HA.out
      have hb := HB.out
      obtain rfl : a = R := by omega
      have hge : ¬ (a : Int) < (b : Int) := by omega
      clear ha hb hlt
      go_wp2_with fail
      go_ret
      exact ⟨rfl, q, rfl⟩

set_option maxRecDepth 100000 in
theorem number_ref (ao : Option Addr) (cap : Nat) (T : List ByteArray) (s : ByteArray) (w : World) (hl : T.length * 16 ≤ 140737488355328) (hT : TextsAt w ao T) (hr : Ris T) :
    Calls Try.prog 13 #[.slice ao T.length cap, .string s] w fun e w' => e = .returned (.tuple #[.int .i64 (numS T s : Int), .int .i64 (numE T s : Int)]) ∧ ∃ q, w' = w.drewN q := by
  have HF := Lib.hid (find_any ao cap T s w hl hT hr)
  by_cases hlt : posS T s < T.length
  · obtain ⟨b, off, rfl, hb, hc⟩ := hT _ hlt
    have hcq : ∀ q, (w.drewN q).cell? ⟨b, off + posS T s, none⟩ = some (.string T[posS T s]!) := fun q => hc
    have hn : T.length < 4611686018427387904 := by omega
    by_cases he : T[posS T s]! = s
    · obtain ⟨e1, e2⟩ := numE_in (l := T) (s := s) ⟨hlt, he⟩
      have heq := str_eq he
      rw [e1, e2]
      clear e1 e2 he hc hb hT hl hr
      generalize T[posS T s]! = x at *
      generalize posS T s = k at *
      generalize T.length = n at *
      go_enter Try.func13, Try.ntmps13
      go_wp2_with (go_at_call 35; refine HF.out.mono ?_; rintro e w' ⟨rfl, q, rfl⟩; have hc := hcq q)
      go_ret2
      exact ⟨rfl, q, rfl⟩
    · obtain ⟨e1, e2⟩ := numE_out (l := T) (s := s) (fun h => he h.2)
      have heq := str_ne he
      rw [e1, e2]
      clear e1 e2 he hc hb hT hl hr
      generalize T[posS T s]! = x at *
      generalize posS T s = k at *
      generalize T.length = n at *
      go_enter Try.func13, Try.ntmps13
      go_wp2_with (go_at_call 35; refine HF.out.mono ?_; rintro e w' ⟨rfl, q, rfl⟩; have hc := hcq q)
      go_ret2
      exact ⟨rfl, q, rfl⟩
  · obtain ⟨e1, e2⟩ := numE_out (l := T) (s := s) (fun h => hlt h.1)
    rw [e1, e2]
    have hn : T.length < 4611686018427387904 := by omega
    have hge : T.length ≤ posS T s := by omega
    clear e1 e2 hT hl hr hlt
    generalize posS T s = k at *
    generalize T.length = n at *
    go_enter Try.func13, Try.ntmps13
    go_wp2_with (go_at_call 35; refine HF.out.mono ?_; rintro e w' ⟨rfl, q, rfl⟩)
    go_ret2
    exact ⟨rfl, q, rfl⟩

end Go.Proofs.Ytcpkogboaniehaa.Sym
