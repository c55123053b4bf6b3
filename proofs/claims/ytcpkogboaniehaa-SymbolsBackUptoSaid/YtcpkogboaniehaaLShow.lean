/-
  The text of a set: contracts of strings.Join, Show. Own text.
-/
import Derived.Test.YtcpkogboaniehaaLQuo
import Derived.Shelf.Strings.OnBuilder
namespace Go.Proofs
open Go.Shelf
end Go.Proofs
namespace Go.Proofs.Ytcpkogboaniehaa.Lab
open Go.RowKit Go Go.Proofs.Ytcpkogboaniehaa.Base Go.Shelf Go.Sort

/-- the text of a label -/
def part (x : Lab) : ByteArray := x.n ++ ⟨#[61]⟩ ++ quoteS x.v
/-- texts, with commas between them -/
def joinN : List (List Nat) → List Nat
  | [] => []
  | x :: r => x ++ (r.map (44 :: ·)).flatten
def partN (x : Lab) : List Nat := nums (part x)
def showN (l : List Lab) : List Nat := joinN (l.map partN)
def showS (l : List Lab) : ByteArray := if validB l = true then strN (showN l) else ByteArray.empty

theorem join_eq (ss : List ByteArray) : (⟨(Lib.join (ss.map (·.data.toList)) [44]).toArray⟩ : ByteArray) = strN (joinN (ss.map nums)) := by
  apply nums_inj
  cases ss with
  | nil => rfl
  | cons s r =>
    rw [List.map_cons, Lib.join_cons, List.map_cons, joinN]
    unfold Lib.joinTail
    have hlt : ∀ x ∈ nums s ++ ((r.map nums).map (44 :: ·)).flatten, x < 256 := by
      intro x hx
      rcases List.mem_append.1 hx with h | h
      · exact nums_lt _ _ h
      · simp only [List.mem_flatten, List.mem_map] at h
        obtain ⟨_, ⟨_, ⟨t, _, rfl⟩, rfl⟩, h⟩ := h
        rcases List.mem_cons.1 h with rfl | h
        · decide
        · exact nums_lt _ _ h
    rw [strN_nums _ hlt]
    unfold nums
    simp only [List.map_append, List.map_flatten, List.map_map]
    congr 2

theorem str_info : (Try.prog.info? 9).map (fun i => (i.zero, i.size, i.bytes)) = some (some (.string ⟨#[]⟩), 1, 16) := by kernel_rfl

/-- texts in a row of the call's own -/
structure Strs (w wr : World) (v : Value) (ss : List ByteArray) : Prop where
  below : Below w.heap.size w wr
  row : wr.ownsRow 0 9 1 v ss.length (ss.map Value.string)
  new : ∀ k, v.ownBlock = some k → w.heap.size ≤ k

theorem Strs.append {w wr : World} {v : Value} {ss : List ByteArray} (h : Strs w wr v ss) (s : ByteArray) (hl : ss.length < 1048576) :
    ∃ ao cap w', (Builtin.append_ #[22, 22] 22 #[v, .slice (some ⟨wr.heap.size, 0, none⟩) 1 1]).run Try.prog (wr.alloc (.cells #[.string s] 9)) = .ok (.slice ao (ss.length + 1) cap) w' ∧ Strs w w' (.slice ao (ss.length + 1) cap) (ss ++ [s]) := by
  obtain ⟨i0, hi, hz0, hz1, hz2⟩ := info_parts str_info
  have hsrc : Src Try.prog 1 22 (.slice (some ⟨wr.heap.size, 0, none⟩) 1 1) 1 [.string s] (wr.alloc (.cells #[.string s] 9)) := by
    refine Src.ofSlice _ Try.underlying22 _ 1 1 _ rfl ?_ ?_
    · intro j u hu
      rw [Go.WideShapes.add_plain, Nat.zero_add]
      exact cell_new rfl (by simpa using hu)
    · intro u hu
      simp at hu
      rw [hu]
      rfl
  obtain ⟨v', w', h1, h2, h3, h4⟩ := Row.append_src (P := Try.prog) (wr.alloc (.cells #[.string s] 9)) 22 22 22 9 i0 _ 1 16 Try.underlying22 hi hz0 hz1 hz2 rfl (by decide) v ss.length _ (h.row.alloc _) _ 1 _ hsrc (by unfold maxLen; omega) (by omega)
  have hb : Below w.heap.size w w' := (h.below.alloc h.below.size _).grown h3 (by simp; have := h.below.size; omega) h.new
  have hnew : ∀ k, v'.ownBlock = some k → w.heap.size ≤ k := fun k hk => by
    rcases h4 with e | e
    · exact h.new k (by rw [← e]; exact hk)
    · rw [hk] at e
      injection e with e
      have := h.below.size
      rw [World.size_alloc] at e
      omega
  have h2' : w'.ownsRow 0 9 1 v' (ss ++ [s]).length ((ss ++ [s]).map Value.string) := by rw [List.length_append, List.map_append]; exact h2
  rcases h2'.2 with ⟨e, h0⟩ | ⟨g, cap, cur, e, h5⟩
  · simp at h0
  · rw [List.length_append] at e
    simp only [List.length_cons, List.length_nil] at e
    subst e
    exact ⟨_, cap, w', h1, hb, h2', hnew⟩
theorem Strs.drewN {w wr : World} {v : Value} {l : List ByteArray} (h : Strs w wr v l) (n : Nat) : Strs w (wr.drewN n) v l := ⟨below_drewN h.below n, ⟨h.row.1, h.row.2⟩, h.new⟩
theorem Strs.kept {w wr w2 : World} {v : Value} {l : List ByteArray} (h : Strs w wr v l) (hb : Below wr.heap.size wr w2) : Strs w w2 v l := by
  refine ⟨le_below h.below hb, ?_, h.new⟩
  refine ⟨h.row.1, ?_⟩
  rcases h.row.2 with h0 | ⟨g, cap, cur, h1, h2, h3, h4⟩
  · exact .inl h0
  · exact .inr ⟨g, cap, cur, h1, h2, by rw [hb.block g (Array.getElem?_eq_some_iff.1 h3).1]; exact h3, h4⟩
theorem Strs.made (w : World) (n : Nat) (hn : n ≤ 1024) :
    ∃ w', (Instr.makeSlice 22 (.int .i64 0) (.int .i64 (n : Int))).run Try.prog w = .ok (.slice (some ⟨w.heap.size, 0, none⟩) 0 n) w' ∧ Strs w w' (.slice (some ⟨w.heap.size, 0, none⟩) 0 n) [] := by
  obtain ⟨i0, hi, hz0, hz1, hz2⟩ := info_parts str_info
  obtain ⟨w', h1, h2, h3⟩ := run_make_own (P := Try.prog) w 0 22 9 i0 (.string ⟨#[]⟩) 1 Try.underlying22 hi hz0 hz1 .i64 .i64 n (by rw [hz2]; omega) (by unfold maxLen; omega) (Nat.zero_le _)
  exact ⟨w', h1, (Below.refl _ _).grown h3 (Nat.le_refl _) (fun k hk => by cases hk), h2, fun k hk => by (simp only [Value.ownBlock, Option.some.injEq] at hk; omega)⟩


theorem chkAux_labs : ∀ (r seen : List Lab), chkAux seen r = 0 → ∀ x ∈ r, labE x = 0
  | [], _, _ => fun x hx => by cases hx
  | y :: r, seen, h => by
    rw [chkAux] at h
    by_cases h1 : labE y = 0
    · rw [if_neg (by omega)] at h
      split at h
      · cases h
      · intro x hx
        rcases List.mem_cons.1 hx with rfl | hx
        · exact h1
        · exact chkAux_labs r _ h x hx
    · rw [if_pos h1] at h
      exact absurd h h1
theorem labE_fit {x : Lab} (h : labE x = 0) : fitN x.n = true ∧ fitV x.v = true := by
  unfold labE at h
  cases h1 : fitN x.n
  · rw [h1] at h; simp at h
  · cases h2 : fitV x.v
    · rw [h1, h2] at h; simp at h
    · exact ⟨rfl, rfl⟩
theorem chk_labs {l : List Lab} (h : chk l = 0) : ∀ x ∈ l, labE x = 0 := by
  unfold chk at h
  split at h
  · rename_i h1; exact absurd h h1
  · exact chkAux_labs _ _ h
theorem valid_chk {l : List Lab} (h : validB l = true) : chk l = 0 := by
  unfold validB setE at h
  simp only [decide_eq_true_eq] at h
  split at h
  · rename_i h1; exact absurd h h1
  · rename_i h1; omega
theorem fit_sizes {l : List Lab} (h : chk l = 0) {k : Nat} (hk : k < l.length) : l[k]!.n.size ≤ 32 ∧ 1 ≤ l[k]!.n.size ∧ l[k]!.v.size ≤ 64 := by
  have hm : l[k]! ∈ l := by rw [getElem!_pos l k hk]; exact List.getElem_mem hk
  obtain ⟨h1, h2⟩ := labE_fit (chk_labs h _ hm)
  have := fitN_size h1
  have := fitV_size h2
  omega
theorem quoteS_size (s : ByteArray) : (quoteS s).size ≤ 4 * s.size + 2 := by
  unfold quoteS quoteN
  rw [strN_size, List.length_cons, List.length_append]
  have := flat_length (nums s)
  rw [nums_length] at this
  simp only [List.length_cons, List.length_nil]
  omega
theorem part_take (l : List Lab) (k : Nat) (h : k < l.length) : (l.take (k + 1)).map part = (l.take k).map part ++ [part l[k]!] := by
  rw [take_nth l k h, List.map_append]; rfl
theorem part_size {x : Lab} (h1 : x.n.size ≤ 32) (h2 : x.v.size ≤ 64) : (part x).size ≤ 291 := by
  unfold part
  have := quoteS_size x.v
  rw [ByteArray.size_append, ByteArray.size_append]
  have e : (⟨#[61]⟩ : ByteArray).size = 1 := rfl
  omega
theorem joinN_length (ls : List (List Nat)) (M : Nat) (h : ∀ x ∈ ls, x.length ≤ M) : (joinN ls).length ≤ ls.length * (M + 1) := by
  have key : ∀ r : List (List Nat), (∀ x ∈ r, x.length ≤ M) → ((r.map (44 :: ·)).flatten).length ≤ r.length * (M + 1) := by
    intro r
    induction r with
    | nil => intro _; simp
    | cons y r ih =>
      intro h
      have h1 := h y (by simp)
      have h2 := ih (fun x hx => h x (by simp [hx]))
      rw [List.map_cons, List.flatten_cons, List.length_append, List.length_cons, List.length_cons, Nat.add_mul]
      omega
  cases ls with
  | nil => simp [joinN]
  | cons y r =>
    have h1 := h y (by simp)
    have h2 := key r (fun x hx => h x (by simp [hx]))
    rw [joinN, List.length_append, List.length_cons, Nat.add_mul]
    omega

end Go.Proofs.Ytcpkogboaniehaa.Lab
