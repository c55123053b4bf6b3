/-
  The table of any texts: contracts of slices.Clone, slices.Sort, slices.Compact of texts, tableOf, Of. Own text.
-/
import Derived.Test.YtcpkogboaniehaaSMem
import Derived.Test.YtcpkogboaniehaaSSort
import Derived.Test.YtcpkogboaniehaaLRow
import Derived.Shelf.SortM.Plain
import Derived.Shelf.SortM.SortNone
import Derived.Shelf.SlicesG.CompactS
import Derived.Shelf.SlicesG.Clone
import Derived.Ground.SlgmProg
import Derived.Ground.SlgnProg
namespace Go.Proofs
open Go.Shelf
shelf_lay_g SlLaysM.n6 Slgm 6 at Try 54 as Try.sSort
shelf_lay_g SlLaysN.n44 Slgn 44 at Try 55 as Try.sCompact
shelf_lay_g SlLaysN.n42 Slgn 42 at Try 30 as Try.sClone
end Go.Proofs
namespace Go.Proofs.Ytcpkogboaniehaa.Sym
open Go.RowKit Go Go.Proofs.Ytcpkogboaniehaa.Base Go.Proofs.Ytcpkogboaniehaa.Lab Go.Shelf Go.Sort

/-- texts in a row of the call's own -/
structure StrRow (w wr : World) (v : Value) (l : List ByteArray) : Prop where
  below : Below w.heap.size w wr
  row : wr.ownsRow 0 9 1 v l.length (strs l)
  new : ∀ k, v.ownBlock = some k → w.heap.size ≤ k
theorem StrRow.nil (w : World) : StrRow w w (.slice none 0 0) [] := ⟨Below.refl _ _, World.ownsRow_nil _ _ _ _, fun k hk => by cases hk⟩

theorem texts_of_row {w : World} {B : Nat} {t : TypeId} {v : Value} {l : List ByteArray} (h : w.ownsRow B t 1 v l.length (strs l)) :
    ∃ ao cap, v = .slice ao l.length cap ∧ l.length ≤ cap ∧ cap ≤ maxLen ∧ TextsAt w ao l := by
  rcases h.2 with ⟨rfl, h0⟩ | ⟨g, cap, cur, rfl, hb0, h2, h3, h4, h5, h6⟩
  · rw [h0]
    exact ⟨none, 0, rfl, Nat.le_refl _, Nat.zero_le _, fun j hj => by omega⟩
  · refine ⟨_, cap, rfl, h3, h4, fun j hj => ⟨g, 0, rfl, (Array.getElem?_eq_some_iff.1 h2).1, ?_⟩⟩
    have hc := strs_at hj
    rw [← h6] at hc
    rw [List.getElem?_take_of_lt (by omega), Array.getElem?_toList] at hc
    simp only [World.cell?, h2, Nat.zero_add]
    simp only [Option.isSome_none, Bool.false_eq_true, if_false]
    exact hc
theorem StrRow.texts {w wr : World} {v : Value} {l : List ByteArray} (h : StrRow w wr v l) : ∃ ao cap, v = .slice ao l.length cap ∧ l.length ≤ cap ∧ TextsAt wr ao l := by
  obtain ⟨ao, cap, h1, h2, _, h3⟩ := texts_of_row h.row
  exact ⟨ao, cap, h1, h2, h3⟩
theorem StrRow.kept {w wr w2 : World} {v : Value} {l : List ByteArray} (h : StrRow w wr v l) (hb : Below wr.heap.size wr w2) : StrRow w w2 v l := by
  refine ⟨h.below.trans (hb.mono h.below.size), ⟨h.row.1, ?_⟩, h.new⟩
  rcases h.row.2 with h0 | ⟨g, cap, cur, h1, h2, h3, h4⟩
  · exact .inl h0
  · exact .inr ⟨g, cap, cur, h1, h2, by rw [hb.block g (Array.getElem?_eq_some_iff.1 h3).1]; exact h3, h4⟩

theorem own_low {w : World} {B B' n k : Nat} {t : TypeId} {v : Value} {xs : List Value} (h : w.ownsRow B t k v n xs) (hB : B' ≤ B) : w.ownsRow B' t k v n xs := by
  refine ⟨h.1, ?_⟩
  rcases h.2 with h0 | ⟨g, cap, cur, h1, h2, h3⟩
  · exact .inl h0
  · exact .inr ⟨g, cap, cur, h1, by omega, h3⟩
theorem own_new {w : World} {B n k : Nat} {t : TypeId} {v : Value} {xs : List Value} (h : w.ownsRow B t k v n xs) : ∀ b, v.ownBlock = some b → B ≤ b := fun b hb => by
  rcases h.2 with ⟨rfl, _⟩ | ⟨g, cap, cur, rfl, h2, h3⟩
  · cases hb
  · simp only [Value.ownBlock, Option.some.injEq] at hb; omega

theorem clone_any (ao : Option Addr) (cap : Nat) (l : List ByteArray) (w : World) (hl : l.length * 16 ≤ 140737488355328) (hT : TextsAt w ao l) :
    Calls Try.prog 30 #[.slice ao l.length cap] w fun e w' => ∃ v, e = .returned v ∧ w'.ownsRow w.heap.size 9 1 v l.length (strs l) ∧ Below w.heap.size w w' := by
  by_cases h0 : l.length = 0
  · obtain rfl : l = [] := List.eq_nil_of_length_eq_zero h0
    cases ao with
    | none =>
      have h := AnyG.slices_Clone_string_nil Try.sClone 0 cap w
      change Calls Try.prog 30 _ _ _ at h
      refine h.mono fun e w' ⟨h1, h2⟩ => ?_
      subst h2
      exact ⟨_, h1, World.ownsRow_nil _ _ _ _, Below.refl _ _⟩
    | some a =>
      have h := AnyG.slices_Clone_string_zero Try.sClone a cap w
      change Calls Try.prog 30 _ _ _ at h
      exact h.mono fun e w' ⟨v, h1, h2, _, h4⟩ => ⟨v, h1, h2, h4⟩
  · obtain ⟨b, off, rfl, hb, hc⟩ := hT.spot (by omega)
    have h := AnyG.slices_Clone_string Try.sClone b off l.length cap l w (Nat.le_refl _) hl (fun j hj => by rw [hc j hj, getElem!_pos l j hj, List.getD_eq_getElem?_getD, List.getElem?_eq_getElem hj]; rfl)
    change Calls Try.prog 30 _ _ _ at h
    refine h.mono fun e w' ⟨v, h1, h2, _, h4⟩ => ⟨v, h1, ?_, h4⟩
    rw [List.take_length] at h2
    exact h2

/-- rows that are stored over, by their cells -/
theorem put_enc (d : Array (List UInt8)) (off : Nat) (c : Array Value) : putCells encStr off d c = putCells id off (d.map encStr) c := by
  unfold putCells
  apply Array.ext
  · simp
  · intro i h1 h2
    simp only [Array.size_mapIdx] at h1
    simp only [Array.getElem_mapIdx, Array.size_map]
    split
    · rename_i hh
      rw [getElem!_pos d (i - off) (by omega), getElem!_pos (d.map encStr) (i - off) (by simp; omega)]
      simp
    · rfl
theorem putRow_enc (w : World) (b off : Nat) (d : Array (List UInt8)) : putRow encStr w b off d = putRow id w b off (d.map encStr) := by
  unfold putRow
  congr 1
  funext c
  exact put_enc d off c
theorem holds_enc {w : World} {b off : Nat} {d : Array (List UInt8)} (h : Holds id w b off (d.map encStr)) : Holds encStr w b off d := fun j hj => by
  have := h j (by simpa using hj)
  rw [getElem!_pos (d.map encStr) j (by simpa using hj)] at this
  rw [getElem!_pos d j hj]
  simpa using this
theorem enc_strs (z : List (List UInt8)) : z.toArray.map encStr = (strs (z.map ofL)).toArray := by
  unfold strs
  simp only [List.map_toArray, List.map_map]
  rfl

theorem sort_any (w : World) (B : Nat) (v : Value) (l : List ByteArray) (h : w.ownsRow B 9 1 v l.length (strs l)) (hn : l.length < 4611686018427387904) :
    Calls Try.prog 54 #[v] w fun e w' => e = .returned (.tuple #[]) ∧ w'.ownsRow B 9 1 v l.length (strs ((srtL l).map ofL)) ∧ w.grownBy w' v.ownBlock := by
  rcases h.2 with ⟨rfl, h0⟩ | ⟨g, cap, cur, rfl, hb0, h2, h3, h4, h5, h6⟩
  · have hc := calls_of_every_depth fun D => AnySM.slices_Sort_string_none_in Try.sSort D none 0 w
    change Calls Try.prog 54 _ _ _ at hc
    refine hc.mono fun e w' ⟨e1, e2⟩ => ?_
    subst e2
    have hl : l = [] := List.eq_nil_of_length_eq_zero h0
    subst hl
    exact ⟨e1, by simpa [srtL, strs] using World.ownsRow_nil w' B 9 1, ⟨rfl, rfl, rfl, Nat.le_refl _, fun _ _ _ => rfl⟩⟩
  · have hls : (l.map lst).toArray.map encStr = (strs l).toArray := by
      rw [enc_strs, List.map_map]
      congr 2
      conv => rhs; rw [← List.map_id l]
      exact List.map_congr_left fun a _ => ofL_lst a
    have hH : Holds encStr w g 0 (l.map lst).toArray := by
      refine holds_enc ?_
      rw [hls]
      exact holds_of_cells h2 (by simp only [List.size_toArray, strs_length]; rw [Nat.mul_one] at h6; exact h6)
    have hc := AnyM.slices_Sort_string Try.sSort g 0 cap (l.map lst) w hH (Array.getElem?_eq_some_iff.1 h2).1 (by simpa using hn)
    change Calls Try.prog 54 _ _ _ at hc
    rw [List.length_map] at hc
    refine hc.mono fun e w' ⟨e1, n, os, e2⟩ => ?_
    subst e2
    show e = _ ∧ (grow (putRow encStr (Sort.ahead w n) g 0 (srtL l).toArray) os).ownsRow _ _ _ _ _ _ ∧ w.grownBy (grow (putRow encStr (Sort.ahead w n) g 0 (srtL l).toArray) os) _
    rw [putRow_enc, enc_strs]
    have hlen : (strs ((srtL l).map ofL)).length = l.length * 1 := by rw [strs_length, List.length_map, srtL_length, Nat.mul_one]
    have ht := take_put cur (strs ((srtL l).map ofL)).toArray (by simp only [List.size_toArray, hlen]; omega)
    simp only [List.size_toArray, hlen] at ht
    refine ⟨e1, ⟨hlen, .inr ⟨g, cap, _, rfl, hb0, heap_put _ h2, h3, h4, by simp [putCells, h5], ht⟩⟩, grownBy_put _⟩

theorem compact_any (w : World) (B : Nat) (v : Value) (z : List (List UInt8)) (h : w.ownsRow B 9 1 v z.length (strs (z.map ofL))) (hn : z.length < 4611686018427387904) :
    Calls Try.prog 55 #[v] w fun e w' => ∃ ao cap, e = .returned (.slice ao ((Lib.compact z).map ofL).length cap) ∧ TextsAt w' ao ((Lib.compact z).map ofL) ∧ w.grownBy w' v.ownBlock := by
  rcases h.2 with ⟨rfl, h0⟩ | ⟨g, cap, cur, rfl, hb0, h2, h3, h4, h5, h6⟩
  · have hz : z = [] := List.eq_nil_of_length_eq_zero h0
    subst hz
    have hc := AnyG.slices_Compact_string_empty Try.sCompact none 0 w
    change Calls Try.prog 55 _ _ _ at hc
    refine hc.mono fun e w' ⟨e1, e2⟩ => ?_
    subst e2
    exact ⟨none, 0, e1, TextsAt.nil _ _, ⟨rfl, rfl, rfl, Nat.le_refl _, fun _ _ _ => rfl⟩⟩
  · have hH : Holds encStr w g 0 z.toArray := by
      refine holds_enc ?_
      rw [enc_strs]
      exact holds_of_cells h2 (by simp only [List.size_toArray, strs_length, List.length_map]; rw [Nat.mul_one] at h6; exact h6)
    have hc := AnyG.slices_Compact_string Try.sCompact g 0 cap z w hH (by omega) h3
    change Calls Try.prog 55 _ _ _ at hc
    refine hc.mono fun e w' ⟨e1, n, e2⟩ => ?_
    rw [putRow_enc, enc_strs, List.map_append] at e2
    have hle := compact_length z
    obtain ⟨D, hD⟩ : ∃ D, D = strs ((Lib.compact z).map ofL ++ (List.replicate (z.length - (Lib.compact z).length) []).map ofL) := ⟨_, rfl⟩
    rw [← hD] at e2
    have hlen : D.length = z.length := by rw [hD, strs_length, List.length_append, List.length_map, List.length_map, List.length_replicate]; omega
    have hg0 : ∀ w0 : World, w0 = grow w0 #[] := fun w0 => by simp [grow]
    rw [hg0 (putRow id (Sort.ahead w n) g 0 D.toArray)] at e2
    subst e2
    have hp := heap_put (os := #[]) (n := n) D.toArray h2
    have ht := take_put cur D.toArray (by simp only [List.size_toArray, hlen]; omega)
    simp only [List.size_toArray, hlen] at ht
    refine ⟨some ⟨g, 0, none⟩, cap, by rw [List.length_map]; exact e1, fun j hj => ⟨g, 0, rfl, (Array.getElem?_eq_some_iff.1 hp).1, ?_⟩, grownBy_put _⟩
    rw [List.length_map] at hj
    have hd : D[j]? = some (.string ((Lib.compact z).map ofL)[j]!) := by
      rw [hD, strs_append, List.getElem?_append_left (by rw [strs_length, List.length_map]; exact hj)]
      exact strs_at (by rw [List.length_map]; exact hj)
    rw [← ht, List.getElem?_take_of_lt (by omega), Array.getElem?_toList] at hd
    simp only [World.cell?, hp, Nat.zero_add]
    simp only [Option.isSome_none, Bool.false_eq_true, if_false]
    exact hd

/-- a new table -/
structure NewTab (w w' : World) (v : Value) (T : List ByteArray) : Prop where
  tab : ∃ ao cap, TabAt w' v T ao cap
  some : ∃ b, v = .pointer (some ⟨b, 0, none⟩)
  below : Below w.heap.size w w'
theorem new_tab {w W : World} {ao : Option Addr} {cap : Nat} {T : List ByteArray} (hb : Below w.heap.size w W) (hT : TextsAt W ao T) (hl : T.length * 16 ≤ 140737488355328) (hr : Ris T) (t : TypeId) :
    NewTab w (W.alloc (.cells #[.slice ao T.length cap] t)) (.pointer (some ⟨W.heap.size, 0, none⟩)) T :=
  ⟨⟨ao, cap, .some _ ao cap T (by rw [World.size_alloc]; omega) (World.cell?_alloc_new _ _ _ _) (hT.below (below_alloc _ _) (Nat.le_refl _)) hl hr⟩, ⟨_, rfl⟩, hb.alloc hb.size _⟩

set_option maxRecDepth 100000 in
set_option maxHeartbeats 1000000 in
theorem tableOf_any (w : World) (B : Nat) (v : Value) (l : List ByteArray) (h : w.ownsRow B 9 1 v l.length (strs l)) (hB : B ≤ w.heap.size) (hn : l.length * 16 ≤ 140737488355328) (w0 : World) (h0 : Below B w0 w) (hs0 : w0.heap.size = B) :
    Calls Try.prog 29 #[v] w fun e w' => ∃ p, e = .returned p ∧ NewTab w0 w' p (tab l) := by
  have h1 := sort_any w B v l h (by omega)
  have hlen := srtL_length l
  have h2 := fun (W : World) (hW : W.ownsRow B 9 1 v l.length (strs ((srtL l).map ofL))) => compact_any W B v (srtL l) (by rw [hlen]; exact hW) (by omega)
  rw [made_tab] at h2
  have hne := own_new h
  have h3 := fun (W : World) (ao : Option Addr) (cap : Nat) (hT : TextsAt W ao (tab l)) => clone_any ao cap (tab l) W (by have := tab_length l; omega) hT
  have hres := fun (W : World) (ao : Option Addr) (cap : Nat) (hb : Below w0.heap.size w0 W) (hT : TextsAt W ao (tab l)) => new_tab (cap := cap) hb hT (by have := tab_length l; omega) (ris_tab l) 96
  generalize (srtL l).map ofL = Sx at *
  generalize tab l = T at *
  generalize l.length = n at *
  have H1 := Lib.hid h1
  have H2 := Lib.hid h2
  have H3 := Lib.hid h3
  have HRES := Lib.hid hres
  have HNE := Lib.hid hne
  have H0 := Lib.hid h0
  have HS0 := Lib.hid hs0
  clear h h1 h2 h3 hres hne h0 hs0 hlen hn
  go_enter Try.func29, Try.ntmps29
  go_wp2_with (go_at_call 54; ((with_reducible refine H1.out.mono ?_); rintro e w1 ⟨rfl, hown1, hg1⟩; have G1 := Lib.hid hg1; have O1 := Lib.hid hown1; clear hg1 hown1))
  go_wp2_with (go_at_call 55; ((with_reducible refine (H2.out _ O1.out).mono ?_); rintro e w2 ⟨ao, cap, rfl, hT2, hg2⟩; have G2 := Lib.hid hg2; have T2 := Lib.hid hT2; clear hg2 hT2))
  have hb2 : Below B w0 w2 := ((H0.out.grown G1.out hB HNE.out)).grown G2.out (by have := G1.out.size; omega) HNE.out
  have HB2 := Lib.hid hb2
  clear hb2
  go_wp2_with (go_at_call 30; ((with_reducible refine (H3.out _ _ _ T2.out).mono ?_); rintro e w3 ⟨v3, rfl, hown3, hb3⟩; obtain ⟨ao3, cap3, rfl, _, _, hT3⟩ := texts_of_row hown3; have T3 := Lib.hid hT3; have HB3 := Lib.hid hb3; clear hT3 hb3 hown3))
  go_ret
  refine ⟨_, rfl, HRES.out _ _ _ ?_ T3.out⟩
  rw [HS0.out]
  exact HB2.out.trans (HB3.out.mono (by have := HB2.out.size; have := HS0.out; omega))

set_option maxRecDepth 100000 in
set_option maxHeartbeats 1000000 in
theorem of_any (ao : Option Addr) (cap : Nat) (l : List ByteArray) (w : World) (hl : l.length * 16 ≤ 140737488355328) (hT : TextsAt w ao l) :
    Calls Try.prog 8 #[.slice ao l.length cap] w fun e w' => ∃ p, e = .returned p ∧ NewTab w w' p (tab l) := by
  have H1 := Lib.hid (clone_any ao cap l w hl hT)
  have H2 := Lib.hid fun (W : World) (v : Value) (h : W.ownsRow w.heap.size 9 1 v l.length (strs l)) (hb : Below w.heap.size w W) => tableOf_any W w.heap.size v l h hb.size hl w hb rfl
  clear hT hl
  generalize tab l = T at *
  generalize l.length = n at *
  go_enter Try.func8, Try.ntmps8
  go_wp2_with (go_at_call 30; ((with_reducible refine H1.out.mono ?_); rintro e w1 ⟨v1, rfl, hown, hb⟩; have O1 := Lib.hid hown; have B1 := Lib.hid hb; clear hown hb))
  go_wp2_with (go_at_call 29; ((with_reducible refine (H2.out _ _ O1.out B1.out).mono ?_); rintro e w2 ⟨p, rfl, hN⟩; have N2 := Lib.hid hN; clear hN))
  go_ret
  exact ⟨_, rfl, N2.out⟩

end Go.Proofs.Ytcpkogboaniehaa.Sym
