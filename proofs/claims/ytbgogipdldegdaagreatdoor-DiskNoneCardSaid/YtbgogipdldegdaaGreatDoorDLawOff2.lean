/-
  The law's step with a nil disk: Append, Read, All, List. Own text.
-/
import Derived.Test.YtbgogipdldegdaaGreatDoorDLawOff
namespace Go.Proofs.YtbgogipdldegdaaGreatDoor.Disk
open Go.RowKit Go Go.Proofs.YtbgogipdldegdaaGreatDoor.Base Go.Proofs.YtbgogipdldegdaaGreatDoor.Map

/-- a list of texts that came in -/
def TextsAt (w : World) (pv : Value) (l : List ByteArray) : Prop :=
  (∃ c, pv = .slice none 0 c ∧ l = []) ∨ ∃ a c, pv = .slice (some a) l.length c ∧ ∀ j u, (l.map Value.string)[j]? = some u → w.cell? (a.add j) = some u

theorem TextsAt.below {w w2 : World} {pv : Value} {l : List ByteArray} (h : TextsAt w pv l) (hb : Below w.heap.size w w2) : TextsAt w2 pv l := by
  rcases h with h | ⟨a, c, h1, h2⟩
  · exact .inl h
  · exact .inr ⟨a, c, h1, fun j u hj => cell_held (h2 j u hj) hb⟩

theorem twin_any {w : World} {pv : Value} {l : List ByteArray} (h : TextsAt w pv l) (hl : l.length * 16 ≤ 140737488355328) :
    Calls Tryz.prog 29 #[pv] w fun r w' => ∃ ao cap, r = .returned (.slice ao l.length cap) ∧ Below w.heap.size w w' := by
  obtain ⟨i0, hi, hz0, hz1, hz2⟩ := info_parts str_info
  have hsrc : ∀ W, W.heap = w.heap → Src Tryz.prog 1 28 pv l.length (l.map Value.string) W := fun W hW => by
    rcases h with ⟨c, h1, h2⟩ | ⟨a, c, h1, h2⟩
    · subst h1 h2
      exact Src.ofNil W Tryz.underlying28 c
    · subst h1
      refine Src.ofSlice W Tryz.underlying28 a l.length c _ (by simp) (fun j u hj => ?_) (fun u hu => ?_)
      · rw [World.cell?_of_block (w := w) (by rw [hW])]
        exact h2 j u hj
      · obtain ⟨x, _, rfl⟩ := List.mem_map.1 hu
        rfl
  have hrun := fun (W : World) (hW : W.heap = w.heap) => Row.append_src (P := Tryz.prog) W 28 28 28 9 i0 _ 1 16 Tryz.underlying28 hi hz0 hz1 hz2 rfl (by decide) (.slice none 0 0) 0 [] (World.ownsRow_nil _ _ _ _) pv l.length (l.map Value.string) (hsrc W hW) (by unfold maxLen; omega) (by omega)
  obtain ⟨v', w', h1, h2, h3, _⟩ := hrun w rfl
  obtain ⟨ad, cp, hv, _⟩ := row_len h2
  rw [Nat.zero_add] at hv
  subst hv
  have H1 := Lib.hid h1
  clear h hsrc hrun hi hz0 hz1 hz2 h2 h1
  go_enter Tryz.func29, Tryz.ntmps29
  go_wp2_with (at_builtin; refine Row.append_by rfl (.const (.slice none 0 0)) (.tmp 3) _ rfl _ _ rfl rfl H1.out ?_)
  go_ret
  exact ⟨_, _, rfl, (Below.refl _ _).grown h3 (Nat.le_refl _) (fun k hk => by cases hk)⟩

structure DarkT (w0 : World) (E : Nat → Addr) (R : Nat) (pv : Value) (l : List ByteArray) (w : World) : Prop where
  dark : Dark w0 E R w
  texts : TextsAt w pv l
theorem held5T {w0 w w2 : World} {E : Nat → Addr} {R : Nat} {a b c d e : Addr} {v1 v2 v3 v4 v5 : Value} {pv : Value} {l : List ByteArray} (h1 : w.cell? a = some v1) (h2 : w.cell? b = some v2) (h3 : w.cell? c = some v3) (h4 : w.cell? d = some v4) (h5 : w.cell? e = some v5) (h : DarkT w0 E R pv l w) (hb : Below w.heap.size w w2) :
    w2.cell? a = some v1 ∧ w2.cell? b = some v2 ∧ w2.cell? c = some v3 ∧ w2.cell? d = some v4 ∧ w2.cell? e = some v5 ∧ DarkT w0 E R pv l w2 :=
  ⟨cell_held h1 hb, cell_held h2 hb, cell_held h3 hb, cell_held h4 hb, cell_held h5 hb, h.dark.below hb, h.texts.below hb⟩

set_option maxRecDepth 100000 in
set_option maxHeartbeats 2000000 in
theorem step3_off {w : World} {R : Nat} {E : Nat → Addr} (hd : Dark w E R w) (A B : ByteArray) (hA : A.size < 4611686018427387904) (hB : B.size < 4611686018427387904) (N M : Int) (pv dv : Value) (y : Bool) (l : List ByteArray) (ht : TextsAt w pv l) (hl : l.length * 16 ≤ 140737488355328) :
    Calls Tryz.prog 11 #[.pointer none, .pointer (some ⟨R, 0, none⟩), opV 3 A B N M pv dv y] w fun r w' => r = .returned (.bool true) ∧ Dark w E R w' := by
  have HD := Lib.hid hd
  have HA := Lib.hid hA
  have HB := Lib.hid hB
  have HT := Lib.hid ht
  have HL := Lib.hid hl
  clear hd hA hB ht hl
  unfold opV
  go_enter Tryz.func11, Tryz.ntmps11
  go_wp2_with fail
  obtain ⟨W, hW⟩ : ∃ W, W = w.alloc (.cells #[.int .i64 3, .string A, .string B, .int .i64 N, .int .i64 M, pv, dv, .bool y] 31) := ⟨_, rfl⟩
  rw [← hW]
  have hS : (∀ i, W.cell? ⟨w.heap.size, i, none⟩ = (#[.int .i64 3, .string A, .string B, .int .i64 N, .int .i64 M, pv, dv, .bool y] : Array Value)[i]?) ∧ DarkT w E R pv l W := by
    rw [hW]
    exact ⟨fun i => cell_of_row _ _ _ _ _ _ (heap_alloc_new w _), HD.out.below (below_alloc _ _), HT.out.below (below_alloc _ _)⟩
  obtain ⟨hc, hdk⟩ := hS
  have c1 : W.cell? ⟨w.heap.size, 1, none⟩ = some (.string A) := hc 1
  have c2 : W.cell? ⟨w.heap.size, 2, none⟩ = some (.string B) := hc 2
  have c3 : W.cell? ⟨w.heap.size, 3, none⟩ = some (.int .i64 N) := hc 3
  have c4 : W.cell? ⟨w.heap.size, 4, none⟩ = some (.int .i64 M) := hc 4
  have c5 : W.cell? ⟨w.heap.size, 5, none⟩ = some pv := hc 5
  clear hW hc
  go_region_held3 (fun w' => w'.cell? ⟨w.heap.size, 1, none⟩ = some (.string A) ∧ w'.cell? ⟨w.heap.size, 2, none⟩ = some (.string B) ∧ w'.cell? ⟨w.heap.size, 3, none⟩ = some (.int .i64 N) ∧ w'.cell? ⟨w.heap.size, 4, none⟩ = some (.int .i64 M) ∧ w'.cell? ⟨w.heap.size, 5, none⟩ = some pv ∧ DarkT w E R pv l w')
    ((go_split_ands; first | exact ⟨by assumption, by assumption, by assumption, by assumption, by assumption, by assumption⟩ | exact held5T (by assumption) (by assumption) (by assumption) (by assumption) (by assumption) (by assumption) (by assumption) | exact held5T (by assumption) (by assumption) (by assumption) (by assumption) (by assumption) (by assumption) (Below.refl _ _).drew))
    (first
      | (go_at_call 29; go_split_ands; ((with_reducible refine (twin_any (DarkT.texts (w0 := w) (E := E) (R := R) (by assumption)) HL.out).mono ?_); rintro r w1 ⟨ao, cap, rfl, hb1⟩))
      | (go_at_call 22; go_split_ands; ((with_reducible refine (Append_nil (Dark.env (w0 := w) (R := R) (DarkT.dark (pv := pv) (l := l) (by assumption))) A _ _ _).mono ?_); rintro r w2 ⟨v, rfl, hv, hb2⟩))
      | (go_at_call 25; go_split_ands; ((with_reducible refine (code_off (Dark.env (w0 := w) (R := R) (DarkT.dark (pv := pv) (l := l) (by assumption))) _ _ _ (by assumption)).mono ?_); rintro r w3 ⟨rfl, hb3⟩))
      | (go_at_call 30; go_split_ands; ((with_reducible refine (RAppend_off (Dark.ref (w0 := w) (E := E) (DarkT.dark (pv := pv) (l := l) (by assumption))) A HA.out pv).mono ?_); rintro r w4 ⟨rfl, hb4⟩)))
  all_goals
    go_wp2
    go_ret
    refine ⟨rfl, ?_⟩
    go_split_ands
    first
      | assumption
      | exact (DarkT.dark (pv := pv) (l := l) (by assumption))
      | exact Dark.below (by assumption) (by assumption)

end Go.Proofs.YtbgogipdldegdaaGreatDoor.Disk
