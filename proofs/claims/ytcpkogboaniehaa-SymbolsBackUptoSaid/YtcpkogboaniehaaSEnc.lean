/-
  The bytes of a table: contracts of the builder's calls, Encode. Own text.
-/
import Derived.Test.YtcpkogboaniehaaSOf
import Derived.Test.YtcpkogboaniehaaMText
import Derived.Shelf.Strings.Builder1
import Derived.Ground.NamesProg
namespace Go.Proofs
open Go.Shelf
def Try.bWrite_ren : Ren := ⟨(fun n => match n with | 166 => 47 | 240 => 65 | 276 => 77 | n => n),
  (fun n => match n with | 0 => 0 | 3 => 3 | 4 => 4 | 5 => 5 | 9 => 9 | 20 => 20 | 37 => 85 | 70 => 84 | 72 => 87 | 75 => 89 | 80 => 54 | 164 => 119 | n => n), (fun n => n)⟩
theorem Try.bWrite : Lays.n166 Try.prog Try.bWrite_ren where
  mixed := by kernel_rfl
  f166 := Try.func47.trans (by kernel_rfl)
  f240 := Try.func65.trans (by kernel_rfl)
  f276 := Try.func77.trans (by kernel_rfl)
  t0 := Try.underlying0
  a0 := Try.isAgg0
  z0 := Try.sizeOf0
  v0 := Try.zeroValue0
  t3 := Try.underlying3
  a3 := Try.isAgg3
  z3 := Try.sizeOf3
  v3 := Try.zeroValue3
  t4 := Try.underlying4
  a4 := Try.isAgg4
  z4 := Try.sizeOf4
  v4 := Try.zeroValue4
  t9 := Try.underlying9
  a9 := Try.isAgg9
  z9 := Try.sizeOf9
  v9 := Try.zeroValue9
  t20 := Try.underlying20
  a20 := Try.isAgg20
  z20 := Try.sizeOf20
  v20 := Try.zeroValue20
  t37 := Try.underlying85
  a37 := Try.isAgg85
  z37 := Try.sizeOf85
  v37 := Try.zeroValue85
  t70 := Try.underlying84
  a70 := Try.isAgg84
  z70 := Try.sizeOf84
  v70 := Try.zeroValue84
  t72 := Try.underlying87
  a72 := Try.isAgg87
  z72 := Try.sizeOf87
  v72 := Try.zeroValue87
  t75 := Try.underlying89
  a75 := Try.isAgg89
  z75 := Try.sizeOf89
  v75 := Try.zeroValue89
  t164 := Try.underlying119
  a164 := Try.isAgg119
  z164 := Try.sizeOf119
  v164 := Try.zeroValue119
theorem Try.bWriteX : Builder.Extra Try.prog Try.bWrite_ren where
  sizeBuilder := by kernel_rfl
  liesBuilder := by kernel_rfl
  t5 := Try.underlying5
  a5 := Try.isAgg5
  z5 := Try.sizeOf5
  v5 := Try.zeroValue5
  infoByte := by kernel_rfl
  cellsByte := by kernel_rfl
  sizeByte := by kernel_rfl
  neB5 := by decide
shelf_lay Lays.n169 Nm 169 at Try as Try.bString
theorem Try.bStringX : Builder.Extra Try.prog Try.bString_ren where
  sizeBuilder := by kernel_rfl
  liesBuilder := by kernel_rfl
  t5 := Try.underlying5
  a5 := Try.isAgg5
  z5 := Try.sizeOf5
  v5 := Try.zeroValue5
  infoByte := by kernel_rfl
  cellsByte := by kernel_rfl
  sizeByte := by kernel_rfl
  neB5 := by decide
end Go.Proofs
namespace Go.Proofs.Ytcpkogboaniehaa.Sym
open Go.RowKit Go Go.Proofs.Ytcpkogboaniehaa.Base Go.Proofs.Ytcpkogboaniehaa.Lab Go.Shelf Go.Sort Go.Proofs.Ytcpkogboaniehaa.Enc

/-- a builder of one's own, and what it holds -/
def Bld (B b : Nat) (S : ByteArray) (w : World) : Prop := Lib.IsBuilder 87 5 B b (Lib.byteCells (lst S)) w
theorem at_kept {B b : Nat} {p : Value} {bs : List Value} {w w' : World} (h : Lib.BuilderAt 87 5 B b p bs w) (hb : Below w.heap.size w w') : Lib.BuilderAt 87 5 B b p bs w' := by
  obtain ⟨h1, v, h2, h3, h4⟩ := h
  refine ⟨h1, v, (hb.block b (Array.getElem?_eq_some_iff.1 h2).1).trans h2, ⟨h3.1, ?_⟩, h4⟩
  rcases h3.2 with h0 | ⟨g, cap, cur, k1, k2, k3, k4⟩
  · exact .inl h0
  · exact .inr ⟨g, cap, cur, k1, k2, by rw [hb.block g (Array.getElem?_eq_some_iff.1 k3).1]; exact k3, k4⟩
theorem Bld.kept {B b : Nat} {S : ByteArray} {w w' : World} (h : Bld B b S w) (hb : Below w.heap.size w w') : Bld B b S w' := by
  rcases h with h | h
  · exact .inl (at_kept h hb)
  · exact .inr (at_kept h hb)
theorem Bld.new (w : World) : Bld w.heap.size w.heap.size ByteArray.empty (w.alloc (.cells #[.pointer none, .slice none 0 0] 87)) := by
  refine .inl ⟨Nat.le_refl _, .slice none 0 0, heap_alloc_new w _, ?_, fun e => by cases e⟩
  exact World.ownsRow_nil _ _ _ _
theorem lst_append (a b : ByteArray) : lst (a ++ b) = lst a ++ lst b := by
  unfold lst
  rw [ByteArray.data_append]
  simp

theorem write_any (B b : Nat) (S s : ByteArray) (w : World) (h : Bld B b S w) (hl : S.size + s.size ≤ 140737488355328) (hB : B ≤ w.heap.size) :
    Calls Try.prog 47 #[.pointer (some ⟨b, 0, none⟩), .string s] w fun e w' => e = .returned (.tuple #[.int .i64 (s.size : Int), .nilIface]) ∧ Bld B b (S ++ s) w' ∧ Below B w w' := by
  have hc := Any.Builder_WriteString Try.bWrite Try.bWriteX B b (Lib.byteCells (lst S)) s w h (by rw [Lib.byteCells_length]; unfold lst; rw [Array.length_toList]; exact hl) hB
  change Calls Try.prog 47 _ _ _ at hc
  refine hc.mono fun e w' ⟨h1, h2, h3⟩ => ⟨h1, ?_, h3⟩
  rw [Lib.strCells_eq, ← Lib.byteCells_append] at h2
  unfold Bld
  rw [lst_append]
  exact .inr h2
theorem string_any (B b : Nat) (S : ByteArray) (w : World) (h : Bld B b S w) (hB : B ≤ w.heap.size) :
    Calls Try.prog 49 #[.pointer (some ⟨b, 0, none⟩)] w fun e w' => e = .returned (.string S) ∧ Below B w w' := by
  have hc := Any.Builder_String_any Try.bString Try.bStringX B b (lst S) w h hB
  change Calls Try.prog 49 _ _ _ at hc
  exact hc.mono fun e w' ⟨h1, h2⟩ => ⟨h1, h2⟩

/-- the bytes of the first k texts, behind the number -/
def tabK (T : List ByteArray) : Nat → ByteArray
  | 0 => uintS T.length
  | k + 1 => tabK T k ++ textS T[k]!
def encT (T : List ByteArray) : ByteArray := tabK T T.length
theorem tabK_succ (T : List ByteArray) (k : Nat) : tabK T (k + 1) = tabK T k ++ textS T[k]! := rfl
theorem tabK_mono (T : List ByteArray) : ∀ (k m : Nat), k ≤ m → (tabK T k).size ≤ (tabK T m).size
  | k, 0, h => by obtain rfl : k = 0 := by omega
                  exact Nat.le_refl _
  | k, m + 1, h => by
    rcases Nat.lt_or_ge k (m + 1) with h1 | h1
    · have := tabK_mono T k m (by omega)
      rw [tabK, ByteArray.size_append]
      omega
    · obtain rfl : k = m + 1 := by omega
      exact Nat.le_refl _

set_option maxRecDepth 100000 in
set_option maxHeartbeats 1000000 in
theorem encode_any {p : Value} {T : List ByteArray} {ao : Option Addr} {cap : Nat} (w : World) (h : TabAt w p T ao cap) (hz : ∀ k, k < T.length → T[k]!.size ≤ 140737488351232) (hsz : (encT T).size ≤ 140737488355328) :
    Calls Try.prog 25 #[p] w fun e w' => e = .returned (.string (encT T)) ∧ Below w.heap.size w w' := by
  have h1 := fun (W : World) (hb : Below w.heap.size w W) => len_any W (h.below hb (Nat.le_refl _))
  have h2 := fun (W : World) (hb : Below w.heap.size w W) => list_any W (h.below hb (Nat.le_refl _))
  have hN := h.small
  have h3 := fun W => uint_any T.length (by omega) W
  have h4 := fun (k : Nat) (hk : k < T.length) W => Enc.text_any T[k]! (hz k hk) W
  have h5 := fun (S s : ByteArray) (W : World) (hB : Bld w.heap.size w.heap.size S W) (hl : S.size + s.size ≤ 140737488355328) (hw : w.heap.size ≤ W.heap.size) => write_any w.heap.size w.heap.size S s W hB hl hw
  have h6 := fun (S : ByteArray) (W : World) (hB : Bld w.heap.size w.heap.size S W) (hw : w.heap.size ≤ W.heap.size) => string_any w.heap.size w.heap.size S W hB hw
  have hm := fun k (hk : k ≤ T.length) => Nat.le_trans (tabK_mono T k T.length hk) hsz
  have hus := uintS_size T.length
  have hn0 : T.length < 4611686018427387904 := by omega
  have hT := h.texts
  obtain ⟨R, hR⟩ : ∃ R, encT T = R := ⟨_, rfl⟩
  have hR0 : tabK T 0 = uintS T.length := rfl
  rw [hR]
  have H1 := Lib.hid h1
  have H2 := Lib.hid h2
  have H3 := Lib.hid h3
  have H4 := Lib.hid h4
  have H5 := Lib.hid h5
  have H6 := Lib.hid h6
  have HM := Lib.hid hm
  have HT := Lib.hid hT
  have HR := Lib.hid hR
  have HN := Lib.hid hN
  have HR0 := Lib.hid hR0
  have HUS := Lib.hid hus
  have HB0 := Lib.hid (Bld.new w)
  generalize uintS T.length = U at *
  clear h h1 h2 h3 h4 h5 h6 hm hus hT hR hR0 hz hsz hN
  go_enter Try.func25, Try.ntmps25
  go_wp2_with (first
    | (go_at_call 27; ((with_reducible refine (H1.out _ (below_alloc _ _)).mono ?_); rintro e w1 ⟨rfl, rfl⟩))
    | (go_at_call 37; ((with_reducible refine (H3.out _).mono ?_); rintro e w2 ⟨rfl, hb2⟩; have B2 := Lib.hid hb2; clear hb2))
    | (go_at_call 47; ((with_reducible refine (H5.out _ _ _ (HB0.out.kept B2.out) (by have := HUS.out; rw [show ByteArray.empty.size = 0 from rfl]; omega) (le_below (below_alloc _ _) B2.out).size).mono ?_); rintro e w3 ⟨rfl, hB3, hb3⟩; have D3 := Lib.hid hB3; have B3 := Lib.hid ((le_below (below_alloc _ _) B2.out).trans hb3); clear hB3 hb3))
    | (go_at_call 34; ((with_reducible refine (H2.out _ B3.out).mono ?_); rintro e w4 ⟨rfl, rfl⟩)))
  go_loopg [14] T.length (fun r i wr => ∃ (k : Nat), Hid (k + r = T.length) ∧ k ≤ T.length ∧ i = .int .i64 (k : Int) ∧ Hid (Bld w.heap.size w.heap.size (tabK T k) wr) ∧ Hid (Below w.heap.size w wr))
  case atStart => exact ⟨0, Nat.zero_add _, Nat.zero_le _, rfl, by show Bld _ _ _ _; rw [HR0.out]; have := D3.out; rwa [show ByteArray.empty ++ U = U from nums_inj (by rw [nums_append]; rfl)] at this, B3.out⟩
  case round =>
    obtain ⟨k, hE, hk, rfl, HD, HB⟩ := hrel
    by_cases hlt : k < T.length
    · obtain ⟨bk, off, rfl, hbk, hc⟩ := (HT.out.below HB.out (Nat.le_refl _)) k hlt
      have h4k := H4.out k hlt
      have hmk := HM.out (k + 1) hlt
      rw [tabK_succ T k, ByteArray.size_append] at hmk
      have hstk := tabK_succ T k
      have hd := HD.out
      generalize T[k]! = x at *
      generalize textS x = X at *
      generalize tabK T k = S at *
      have H4K := Lib.hid h4k
      have HMK := Lib.hid hmk
      have HSTK := Lib.hid hstk
      have HDK := Lib.hid hd
      clear h4k hmk hstk hd HD hbk
      go_wp2_with (first
        | (go_at_call 48; ((with_reducible refine (H4K.out _).mono ?_); rintro e w5 ⟨rfl, hb5⟩; have B5 := Lib.hid hb5; clear hb5))
        | (go_at_call 47; ((with_reducible refine (H5.out _ _ _ (HDK.out.kept B5.out) HMK.out (le_below HB.out B5.out).size).mono ?_); rintro e w6 ⟨rfl, hB6, hb6⟩; have D6 := Lib.hid hB6; have B6 := Lib.hid ((le_below HB.out B5.out).trans hb6); clear hB6 hb6)))
      go_roundg (T.length - (k + 1))
      case measure => have := hE.out; omega
      case rel => exact ⟨k + 1, by show _ = _; omega, by omega, by go_num, by show Bld _ _ _ _; rw [HSTK.out]; exact D6.out, B6.out⟩
    · obtain rfl : k = T.length := by omega
      have hd := HD.out
      rw [show tabK T T.length = encT T from rfl, HR.out] at hd
      have HDK := Lib.hid hd
      clear hd HD
      go_wp2_with (go_at_call 49; ((with_reducible refine (H6.out _ _ HDK.out HB.out.size).mono ?_); rintro e w7 ⟨rfl, hb7⟩; have B7 := Lib.hid hb7; clear hb7))
      go_ret
      exact ⟨rfl, HB.out.trans B7.out⟩

end Go.Proofs.Ytcpkogboaniehaa.Sym
