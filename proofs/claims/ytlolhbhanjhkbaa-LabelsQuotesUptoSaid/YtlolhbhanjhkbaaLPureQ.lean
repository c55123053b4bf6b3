/-
  Sets and their texts: what is shown is read again, what is read is the one form. Own text, without walks.
-/
import Derived.Test.YtlolhbhanjhkbaaMPiece
import Derived.Test.YtlolhbhanjhkbaaLRead2
namespace Go.Proofs.Ytlolhbhanjhkbaa.Lab
open Go.RowKit Go Go.Proofs.Ytlolhbhanjhkbaa.Base Go.Shelf Go.Sort Go.Proofs.Ytlolhbhanjhkbaa.Enc

theorem prB_yes {c : Nat} : prB c = true ↔ 32 ≤ c ∧ c ≤ 126 := by unfold prB; simp
theorem prB_no {c : Nat} : prB c = false ↔ ¬ (32 ≤ c ∧ c ≤ 126) := by rw [← prB_yes]; simp
theorem hexv_d {k : Nat} (h : k < 16) : hexv (hexd k) = k := by
  unfold hexd
  split
  · unfold hexv; rw [if_pos (by omega)]; omega
  · unfold hexv; rw [if_neg (by omega), if_pos (by omega)]; omega
theorem hexd_v {x : Nat} (h : hexv x < 16) : hexd (hexv x) = x := by
  unfold hexv at h ⊢
  split at h
  · rename_i h1; rw [if_pos h1]; unfold hexd; rw [if_pos (by omega)]; omega
  · rename_i h1
    split at h
    · rename_i h2; rw [if_neg h1, if_pos h2]; unfold hexd; rw [if_neg (by omega)]; omega
    · omega

/-- a quoted form that is read is the one form of its byte -/
theorem qb_one (s : ByteArray) (i : Nat) (h : i < s.size) (h0 : usz s i ≠ 0) (h34 : at8 s i ≠ 34) : seg s i (i + usz s i) = qb (uch s i) := by
  have hle := (usz_le s i h).1
  rw [seg_map s i _ hle]
  unfold uch
  unfold usz at h0 hle ⊢
  by_cases p : prB (at8 s i) = false
  · rw [if_pos p] at h0; exact absurd rfl h0
  · have p' : prB (at8 s i) = true := by simpa using p
    rw [if_neg p] at h0 hle ⊢
    by_cases h92 : at8 s i ≠ 92
    · rw [if_pos h92] at hle ⊢
      rw [if_pos rfl]
      unfold qb
      rw [if_neg (by rw [p']; decide), if_neg (by omega)]
      simp
    · have e92 : at8 s i = 92 := by omega
      rw [if_neg h92] at h0 hle ⊢
      by_cases c2 : i + 2 ≤ s.size ∧ (at8 s (i + 1) = 34 ∨ at8 s (i + 1) = 92)
      · rw [if_pos c2] at hle ⊢
        rw [if_neg (by decide), if_pos rfl]
        have : prB (at8 s (i + 1)) = true := by rw [prB_yes]; omega
        unfold qb
        rw [if_neg (by rw [this]; decide), if_pos c2.2]
        simp [List.range_succ, e92]
      · rw [if_neg c2] at h0 hle ⊢
        by_cases c4 : i + 4 ≤ s.size ∧ at8 s (i + 1) = 120 ∧ hexv (at8 s (i + 2)) < 16 ∧ hexv (at8 s (i + 3)) < 16 ∧ prB (hexv (at8 s (i + 2)) * 16 + hexv (at8 s (i + 3))) = false
        · rw [if_pos c4] at hle ⊢
          rw [if_neg (by decide), if_neg (by decide), if_pos rfl]
          obtain ⟨_, d1, d2, d3, d4⟩ := c4
          unfold qb
          rw [if_pos d4, (by omega : (hexv (at8 s (i + 2)) * 16 + hexv (at8 s (i + 3))) / 16 = hexv (at8 s (i + 2))), (by omega : (hexv (at8 s (i + 2)) * 16 + hexv (at8 s (i + 3))) % 16 = hexv (at8 s (i + 3))), hexd_v d2, hexd_v d3]
          simp [List.range_succ, e92, d1]
        · rw [if_neg c4] at h0; exact absurd rfl h0

/-- a byte's quoted form is read as the byte -/
theorem qb_back {s : ByteArray} {i b : Nat} {R : List Nat} (hb : b < 256) (h : Piece s i (qb b) R) : at8 s i ≠ 34 ∧ usz s i = (qb b).length ∧ uch s i = b := by
  have hz := h.size
  have ha := h.at
  unfold qb at hz ha ⊢
  by_cases p : prB b = false
  · rw [if_pos p] at hz ha ⊢
    have a0 : at8 s i = 92 := ha 0 (by simp)
    have a1 : at8 s (i + 1) = 120 := ha 1 (by simp)
    have a2 : at8 s (i + 2) = hexd (b / 16) := ha 2 (by simp)
    have a3 : at8 s (i + 3) = hexd (b % 16) := ha 3 (by simp)
    have v2 := hexv_d (k := b / 16) (by omega)
    have v3 := hexv_d (k := b % 16) (by omega)
    simp only [List.length_cons, List.length_nil] at hz ⊢
    have hu : usz s i = 4 := by
      unfold usz
      rw [a0, a1, a2, a3, v2, v3, (by omega : b / 16 * 16 + b % 16 = b), if_neg (by decide), if_neg (by decide), if_neg (by omega), if_pos ⟨by omega, rfl, by omega, by omega, p⟩]
    refine ⟨by omega, hu, ?_⟩
    unfold uch
    rw [hu, if_neg (by decide), if_neg (by decide), if_pos rfl, a2, a3, v2, v3]
    omega
  · have p' : prB b = true := by simpa using p
    rw [if_neg p] at hz ha ⊢
    by_cases c : b = 34 ∨ b = 92
    · rw [if_pos c] at hz ha ⊢
      have a0 : at8 s i = 92 := ha 0 (by simp)
      have a1 : at8 s (i + 1) = b := ha 1 (by simp)
      simp only [List.length_cons, List.length_nil] at hz ⊢
      have hu : usz s i = 2 := by
        unfold usz
        rw [a0, a1, if_neg (by decide), if_neg (by decide), if_pos ⟨by omega, c⟩]
      refine ⟨by omega, hu, ?_⟩
      unfold uch
      rw [hu, if_neg (by decide), if_pos rfl, a1]
    · rw [if_neg c] at hz ha ⊢
      have a0 : at8 s i = b := ha 0 (by simp)
      simp only [List.length_cons, List.length_nil] at hz ⊢
      have hu : usz s i = 1 := by
        unfold usz
        rw [a0, if_neg p, if_pos (by omega)]
      refine ⟨by omega, hu, ?_⟩
      unfold uch
      rw [hu, if_pos rfl, a0]

theorem flat_ge (l : List Nat) : l.length ≤ (l.flatMap qb).length := by
  induction l with
  | nil => simp
  | cons b l ih =>
    have := (qb_length b).1
    rw [List.flatMap_cons, List.length_append, List.length_cons]
    omega
theorem seg_one (s : ByteArray) (i : Nat) (h : i < s.size) : seg s i (i + 1) = [at8 s i] := by
  rw [seg_map s i 1 (by omega)]; simp

theorem unqR_one {s : ByteArray} : ∀ {f i : Nat} {acc l : List Nat} {n : Nat}, unqR s f i acc = some (l, n) → ∃ m, l = acc ++ m ∧ seg s i n = m.flatMap qb ++ [34]
  | 0, i, acc, l, n, h => by rw [unqR] at h; cases h
  | f + 1, i, acc, l, n, h => by
    rw [unqR] at h
    split at h
    · cases h
    · rename_i h1
      split at h
      · rename_i h34
        injection h with h
        injection h with h2 h3
        subst h2 h3
        exact ⟨[], by simp, by rw [seg_one s i (by omega), h34]; rfl⟩
      · rename_i h34
        split at h
        · cases h
        · rename_i h0
          obtain ⟨l1, _⟩ := usz_le s i (by omega)
          obtain ⟨m, m1, m2⟩ := unqR_one h
          obtain ⟨n1, _⟩ := unqR_le h
          refine ⟨uch s i :: m, by rw [m1]; simp, ?_⟩
          rw [List.flatMap_cons, List.append_assoc, ← m2, ← qb_one s i (by omega) h0 h34, seg_append s (by omega) (by omega)]
theorem unq_one {s : ByteArray} {a : Nat} {l : List Nat} {n : Nat} (h : unq s (a : Int) = some (l, n)) : seg s a n = quoteN l := by
  unfold unq at h
  split at h
  · cases h
  · rename_i h1
    split at h
    · cases h
    · rename_i h34
      rw [Int.toNat_natCast] at h h34
      obtain ⟨m, m1, m2⟩ := unqR_one h
      obtain ⟨n1, _⟩ := unqR_le h
      rw [List.nil_append] at m1
      subst m1
      rw [← seg_append s (b := a + 1) (by omega) (by omega), m2, seg_one s a (by omega)]
      have : at8 s a = 34 := by omega
      rw [this]
      rfl

theorem unqR_back {s : ByteArray} : ∀ {m : List Nat} {f i : Nat} {acc R : List Nat}, Piece s i (m.flatMap qb ++ [34]) R → (∀ x ∈ m, x < 256) → m.length < f → unqR s f i acc = some (acc ++ m, i + (m.flatMap qb).length + 1)
  | [], 0, i, acc, R, _, _, h => by omega
  | [], f + 1, i, acc, R, h, _, _ => by
    have hz := h.size
    have h0 : at8 s i = 34 := h.at 0 (by simp)
    simp only [List.flatMap_nil, List.nil_append, List.length_cons, List.length_nil] at hz
    rw [unqR, if_neg (by omega), if_pos h0]
    simp
  | b :: m, 0, i, acc, R, _, _, h => by simp at h
  | b :: m, f + 1, i, acc, R, h, hm, hl => by
    rw [List.flatMap_cons, List.append_assoc] at h
    have hz := h.size
    have hq := (qb_length b).1
    rw [List.length_append] at hz
    obtain ⟨c1, c2, c3⟩ := qb_back (hm b (by simp)) h.first
    rw [unqR, if_neg (by omega), if_neg c1, if_neg (by omega), c2, c3, unqR_back h.next (fun x hx => hm x (by simp [hx])) (by simp only [List.length_cons] at hl; omega)]
    simp [Nat.add_assoc]
theorem unq_back {s : ByteArray} {a : Nat} {l R : List Nat} (h : Piece s a (quoteN l) R) (hl : ∀ x ∈ l, x < 256) : unq s (a : Int) = some (l, a + (quoteN l).length) := by
  have hz := h.size
  have hg := flat_ge l
  have h0 : at8 s a = 34 := h.at 0 (by unfold quoteN; simp)
  have hq : (quoteN l).length = (l.flatMap qb).length + 2 := by unfold quoteN; simp
  have hp : Piece s (a + 1) (l.flatMap qb ++ [34]) R := Piece.next (L := [34]) h
  unfold unq
  rw [Int.toNat_natCast, if_neg (by omega), if_neg (by omega), unqR_back hp hl (by omega), hq, List.nil_append]
  congr 2
  omega

theorem fqL_at : ∀ {l : List Nat}, fqL l < l.length → l.getD (fqL l) 0 = 61
  | [], h => by simp [fqL] at h
  | x :: r, h => by
    rw [fqL] at h ⊢
    split at h
    · rename_i h1; rw [if_pos h1]; simpa using h1
    · rename_i h1
      rw [if_neg h1]
      simp only [List.length_cons] at h
      have := fqL_at (l := r) (by omega)
      simpa using this
theorem fqL_cut : ∀ {m r : List Nat}, (∀ x ∈ m, x ≠ 61) → fqL (m ++ 61 :: r) = m.length
  | [], r, _ => by simp [fqL]
  | x :: m, r, h => by
    rw [List.cons_append, fqL, if_neg (h x (by simp)), fqL_cut (fun y hy => h y (by simp [hy]))]
    simp
theorem fq_at {s : ByteArray} {a : Nat} (ha : a ≤ s.size) (h : fq s a < s.size) : at8 s (fq s a) = 61 := by
  unfold fq at h ⊢
  have := fqL_at (l := (nums s).drop a) (by rw [List.length_drop, nums_length]; omega)
  unfold at8
  rw [List.getD, List.getElem?_drop] at this
  exact this

theorem qb_lt {b : Nat} (hb : b < 256) : ∀ x ∈ qb b, x < 256 := by
  intro x hx
  unfold qb at hx
  have hd : ∀ k, k < 16 → hexd k < 256 := fun k hk => by unfold hexd; split <;> omega
  have h1 := hd (b / 16) (by omega)
  have h2 := hd (b % 16) (by omega)
  split at hx
  · simp only [List.mem_cons, List.not_mem_nil, or_false] at hx
    omega
  · split at hx
    · simp only [List.mem_cons, List.not_mem_nil, or_false] at hx
      omega
    · rw [List.mem_singleton.1 hx]; exact hb
theorem quoteN_lt (l : List Nat) (h : ∀ x ∈ l, x < 256) : ∀ x ∈ quoteN l, x < 256 := by
  intro x hx
  unfold quoteN at hx
  simp only [List.mem_cons, List.mem_append, List.mem_flatMap, List.not_mem_nil, or_false] at hx
  rcases hx with rfl | ⟨b, hb, hx⟩ | rfl
  · decide
  · exact qb_lt (h b hb) x hx
  · decide

theorem part_nums (x : Lab) : partN x = nums x.n ++ 61 :: quoteN (nums x.v) := by
  unfold partN part quoteS
  rw [nums_append, nums_append, strN_nums]
  · simp [nums]
  · exact quoteN_lt _ (fun y hy => nums_lt _ y hy)

theorem shown_one {s : ByteArray} {a n : Nat} {x : Lab} (ha : a ≤ s.size) (h : shown s a = some (x, n)) : seg s a n = partN x := by
  unfold shown at h
  split at h
  · cases h
  · rename_i h1
    cases hu : unq s ((fq s a : Int) + 1) with
    | none => rw [hu] at h; cases h
    | some p =>
      rw [hu] at h
      obtain ⟨l, m⟩ := p
      simp only [Option.map_some, Option.some.injEq, Prod.mk.injEq] at h
      obtain ⟨rfl, rfl⟩ := h
      have hle := unq_le hu
      have hge : a ≤ fq s a := by unfold fq; omega
      have hu' : unq s ((fq s a + 1 : Nat) : Int) = some (l, m) := by rw [← hu]; congr 1
      have h3 := unq_one hu'
      rw [part_nums, strN_nums l hle.2.2, ← h3, seg_extract, ← fq_at ha (by omega)]
      rw [← seg_append s (a := a) (b := fq s a) (c := m) (by omega) (by omega), ← seg_append s (a := fq s a) (b := fq s a + 1) (c := m) (by omega) (by omega), seg_one s _ (by omega)]
      rfl
theorem shown_back {s : ByteArray} {a : Nat} {x : Lab} {R : List Nat} (hx : ∀ y ∈ nums x.n, y ≠ 61) (h : Piece s a (partN x) R) : shown s a = some (x, a + (partN x).length) := by
  have hz := h.size
  rw [part_nums] at h hz ⊢
  have hf : fq s a = a + x.n.size := by
    unfold fq
    rw [h.2, List.append_assoc, List.cons_append, fqL_cut hx, nums_length]
  rw [List.length_append, nums_length, List.length_cons] at hz
  have hp : Piece s (a + x.n.size) (61 :: quoteN (nums x.v)) R := by
    have := h.next
    rwa [nums_length] at this
  have hp2 : Piece s (a + x.n.size + 1) (quoteN (nums x.v)) R := Piece.next (L := [61]) hp
  have hu := unq_back hp2 (fun y hy => nums_lt _ y hy)
  unfold shown
  rw [hf, if_neg (by omega), (by omega : ((a + x.n.size : Nat) : Int) + 1 = ((a + x.n.size + 1 : Nat) : Int)), hu, Option.map_some, nums_strN]
  have hc := h.first.cut
  rw [nums_length] at hc
  have hn : s.extract a (a + x.n.size) = x.n := nums_inj hc
  rw [hn, List.length_append, nums_length, List.length_cons]
  congr 2
  omega

theorem joinN_two (p q : List Nat) (r : List (List Nat)) : joinN (p :: q :: r) = p ++ 44 :: joinN (q :: r) := by simp [joinN]

theorem rlR_one {s : ByteArray} : ∀ {c a : Nat} {acc l : List Lab}, rlR s c a acc = some l → a ≤ s.size → ∃ r, l = acc ++ r ∧ r ≠ [] ∧ seg s a s.size = showN r
  | 0, a, acc, l, h, _ => by rw [rlR] at h; cases h
  | c + 1, a, acc, l, h, ha => by
    rw [rlR] at h
    cases hs : shown s a with
    | none => rw [hs] at h; cases h
    | some p =>
      obtain ⟨x, n⟩ := p
      rw [hs] at h
      simp only at h
      have h1 := shown_one ha hs
      have h2 := shown_le hs
      split at h
      · rename_i hn
        injection h with h
        refine ⟨[x], h.symm, by simp, ?_⟩
        rw [← hn, h1]
        simp [showN, joinN]
      · rename_i hn
        split at h
        · cases h
        · rename_i h44
          have e44 : at8 s n = 44 := by omega
          obtain ⟨r, r1, r2, r3⟩ := rlR_one h (by omega)
          refine ⟨x :: r, by rw [r1]; simp, by simp, ?_⟩
          rw [← seg_append s (a := a) (b := n) (by omega) (by omega), ← seg_append s (a := n) (b := n + 1) (by omega) (by omega), seg_one s n (by omega), h1, r3, e44]
          cases r with
          | nil => exact absurd rfl r2
          | cons y r => simp only [showN, List.map_cons, joinN_two]; rfl

theorem rlR_back {s : ByteArray} : ∀ {r : List Lab} {c a : Nat} {acc : List Lab}, r ≠ [] → Piece s a (showN r) [] → (∀ x ∈ r, ∀ y ∈ nums x.n, y ≠ 61) → r.length ≤ c → rlR s c a acc = some (acc ++ r)
  | [], c, a, acc, h, _, _, _ => absurd rfl h
  | x :: r, 0, a, acc, _, _, _, h => by simp at h
  | [x], c + 1, a, acc, _, h, hf, _ => by
    have e : showN [x] = partN x := by simp [showN, joinN]
    rw [e] at h
    have hz := h.size
    rw [rlR, shown_back (hf x (by simp)) h]
    simp only
    rw [if_pos (by simpa using hz)]
  | x :: y :: r, c + 1, a, acc, _, h, hf, hc => by
    have e : showN (x :: y :: r) = partN x ++ 44 :: showN (y :: r) := by simp only [showN, List.map_cons, joinN_two]
    rw [e] at h
    have hz := h.size
    have h2 := h.next
    have h3 : Piece s (a + (partN x).length + 1) (showN (y :: r)) [] := Piece.next (L := [44]) h2
    have h44 : at8 s (a + (partN x).length) = 44 := h2.at 0 (by simp)
    rw [List.length_append, List.length_cons] at hz
    rw [rlR, shown_back (hf x (by simp)) h.first]
    simp only
    rw [if_neg (by simp at hz; omega), if_neg (by omega), rlR_back (by simp) h3 (fun z hz => hf z (by simp [hz])) (by simp only [List.length_cons] at hc ⊢; omega)]
    simp

theorem fitN_plain {n : ByteArray} (h : fitN n = true) : ∀ y ∈ nums n, y ≠ 61 := by
  intro y hy h61
  subst h61
  obtain ⟨i, hi, he⟩ := List.getElem_of_mem hy
  have hi' : i < n.size := by rw [nums_length] at hi; exact hi
  have hat : at8 n i = 61 := by
    unfold at8
    rw [List.getD, List.getElem?_eq_getElem hi, he]
    rfl
  have := fitN_bad hi' (by rw [hat]; unfold okc; rw [(by decide : letter 61 = false), (by decide : digit 61 = false)]; simp)
  rw [this] at h
  cases h

/-- a text that is read is the one form of what is read -/
theorem read_one {s : ByteArray} (h : readE s = 0) : validB (readS s) = true ∧ showS (readS s) = s := by
  unfold readE at h
  unfold readS
  cases hr : readL s with
  | none => rw [hr] at h; cases h
  | some l =>
    rw [hr] at h
    simp only at h ⊢
    split at h
    · rename_i hv
      rw [if_pos hv]
      refine ⟨hv, ?_⟩
      obtain ⟨r, r1, _, r3⟩ := rlR_one hr (by omega)
      rw [List.nil_append] at r1
      subst r1
      rw [seg_all] at r3
      unfold showS
      rw [if_pos hv, ← r3, nums_strN]
    · cases h
theorem showN_lt (l : List Lab) : ∀ x ∈ showN l, x < 256 := by
  cases l with
  | nil => intro x hx; cases hx
  | cons a r =>
    intro x hx
    simp only [showN, List.map_cons, joinN, List.mem_append, List.mem_flatten, List.mem_map] at hx
    rcases hx with h | ⟨q, ⟨y, ⟨z, hz, rfl⟩, rfl⟩, hq⟩
    · exact nums_lt _ x h
    · rcases List.mem_cons.1 hq with rfl | h
      · decide
      · exact nums_lt _ x h
/-- a set's text is read again -/
theorem read_back {l : List Lab} (h : validB l = true) : readS (showS l) = l ∧ readE (showS l) = 0 := by
  have hc := valid_chk h
  have hlen := chk_zero_len hc
  have hlab := chk_labs hc
  have hne : l ≠ [] := by intro h0; rw [h0] at hlen; simp at hlen
  have hs : showS l = strN (showN l) := by unfold showS; rw [if_pos h]
  have hp : Piece (showS l) 0 (showN l) [] := ⟨by omega, by rw [hs, strN_nums _ (showN_lt l)]; simp⟩
  have hr : readL (showS l) = some l := by
    unfold readL
    rw [rlR_back hne hp (fun x hx => fitN_plain (labE_fit (hlab x hx)).1) hlen.2]
    simp
  unfold readS readE
  rw [hr]
  simp only
  rw [if_pos h, if_pos h]
  exact ⟨rfl, rfl⟩
theorem readS_none {s : ByteArray} (h : readE s ≠ 0) : readS s = [] := by
  unfold readE at h
  unfold readS
  cases hr : readL s with
  | none => rfl
  | some l =>
    rw [hr] at h
    simp only at h ⊢
    split
    · rename_i hv; rw [if_pos hv] at h; exact absurd rfl h
    · rfl
end Go.Proofs.Ytlolhbhanjhkbaa.Lab
