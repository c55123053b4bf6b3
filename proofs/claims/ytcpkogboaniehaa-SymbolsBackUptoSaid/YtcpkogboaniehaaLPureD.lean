/-
  Sets and their bytes: what is written is read again, what is read is the one form. Own text, without walks.
-/
import Derived.Test.YtcpkogboaniehaaMPiece
import Derived.Test.YtcpkogboaniehaaLRefD
namespace Go.Proofs.Ytcpkogboaniehaa.Lab
open Go.RowKit Go Go.Proofs.Ytcpkogboaniehaa.Base Go.Shelf Go.Sort Go.Proofs.Ytcpkogboaniehaa.Enc

/-- a label's bytes -/
def labN (x : Lab) : List Nat := nums (textS x.n) ++ nums (textS x.v)
theorem nums_textS (t : ByteArray) (h : t.size ≤ 1048576) : nums (textS t) = Var.vl 9 t.size ++ nums t := by
  unfold textS uintS
  rw [nums_append, strN_nums _ (fun x hx => Var.vl_lt 9 t.size (Nat.lt_of_le_of_lt h (by decide)) x hx)]
theorem encK_nums (l : List Lab) : ∀ k, k ≤ l.length → nums (encK l k) = nums (uintS l.length) ++ (l.take k).flatMap labN
  | 0, _ => by simp [encK]
  | k + 1, h => by
    rw [encK, nums_append, encK_nums l k (by omega), take_nth l k (by omega), List.flatMap_append, List.append_assoc, nums_append]
    simp [labN]

theorem dec_back (s : ByteArray) : ∀ (r : List Lab) (b : Nat) (p : ByteArray) (acc : List Lab) (R : List Nat),
    Piece s b (r.flatMap labN) R → (∀ x ∈ r, labE x = 0) → (p.size = 0 ∨ ∀ x ∈ r, cmpS p x.n < 0) → Asc r →
    decAux s r.length b p acc = (acc ++ r, b + (r.flatMap labN).length, 0)
  | [], b, p, acc, R, _, _, _, _ => by simp [decAux]
  | x :: r, b, p, acc, R, h, hf, hp, ha => by
    have hx := hf x (by simp)
    obtain ⟨n1, n2⟩ := labE_fit hx
    have s1 := fitN_size n1
    have s2 := fitV_size n2
    rw [List.flatMap_cons] at h ⊢
    have hA : Piece s b (nums (textS x.n)) (nums (textS x.v) ++ (r.flatMap labN ++ R)) := by
      have := h.first.first (L := nums (textS x.n)) (M := nums (textS x.v))
      exact this
    have hB : Piece s (b + (nums (textS x.n)).length) (nums (textS x.v)) (r.flatMap labN ++ R) := (h.first.next (L := nums (textS x.n)) (M := nums (textS x.v)))
    have l1 : (nums (textS x.n)).length = (Var.vl 9 x.n.size).length + x.n.size := by rw [nums_textS _ (by omega), List.length_append, nums_length]
    have l2 : (nums (textS x.v)).length = (Var.vl 9 x.v.size).length + x.v.size := by rw [nums_textS _ (by omega), List.length_append, nums_length]
    have l3 : (labN x).length = (nums (textS x.n)).length + (nums (textS x.v)).length := by rw [labN, List.length_append]
    rw [nums_textS _ (by omega)] at hA
    have hB' := hB
    rw [nums_textS x.v (by omega)] at hB'
    obtain ⟨a1, a2, a3⟩ := text_back s b x.n _ (by omega) hA
    have ea : txN s (b : Int) = b + (nums (textS x.n)).length := by rw [a3]; omega
    obtain ⟨b1, b2, b3⟩ := text_back s _ x.v _ (by omega) hB'
    have eb : txN s ((b + (nums (textS x.n)).length : Nat) : Int) = b + (labN x).length := by
      rw [b3]; omega
    rw [← ea] at b1 b2 eb
    have hE : lbE s (b : Int) = 0 := by rw [lb_lab a1 b1, a2, b2]; exact hx
    obtain ⟨x1, x2⟩ := lb_x hE
    rw [a2, b2] at x1
    rw [eb] at x2
    have hlt : cmpS p (lbX s (b : Int)).n < 0 := by
      rw [x1]
      rcases hp with h0 | h0
      · have : p = ByteArray.empty := by
          apply nums_inj
          have := nums_length p
          rw [h0] at this
          rw [List.eq_nil_of_length_eq_zero this]
          rfl
        rw [this]
        exact cmp_empty s1.1
      · exact h0 x (by simp)
    have ha2 := List.pairwise_cons.1 ha
    rw [List.length_cons, dec_go hE hlt, x1, x2, dec_back s r _ x.n (acc ++ [x]) R h.next (fun y hy => hf y (by simp [hy])) (.inr ha2.1) ha2.2, List.length_append]
    simp [Nat.add_assoc]

theorem dec_one (s : ByteArray) : ∀ (c b : Nat) (p : ByteArray) (acc L : List Lab) (N : Nat), decAux s c b p acc = (L, N, 0) → b ≤ s.size →
    ∃ r, L = acc ++ r ∧ r.length = c ∧ b ≤ N ∧ N ≤ s.size ∧ seg s b N = r.flatMap labN ∧ (∀ x ∈ r, labE x = 0) ∧ Asc r ∧ (∀ x ∈ r, cmpS p x.n < 0)
  | 0, b, p, acc, L, N, h, hb => by
    rw [decAux] at h
    injection h with h1 h2
    injection h2 with h2 h3
    subst h1 h2
    exact ⟨[], by simp, rfl, Nat.le_refl _, hb, by unfold seg; simp, (fun x hx => by cases hx), List.Pairwise.nil, (fun x hx => by cases hx)⟩
  | c + 1, b, p, acc, L, N, h, hb => by
    by_cases e0 : lbE s (b : Int) = 0
    · by_cases e1 : cmpS p (lbX s (b : Int)).n < 0
      · rw [dec_go e0 e1] at h
        obtain ⟨x1, x2⟩ := lb_x e0
        have t1 : txE s (b : Int) = 0 := by
          rcases Nat.eq_zero_or_pos (txE s (b : Int)) with h1 | h1
          · exact h1
          · rw [lb_one (by omega)] at e0; exact e0
        have t2 : txE s (txN s (b : Int) : Int) = 0 := by
          rcases Nat.eq_zero_or_pos (txE s (txN s (b : Int) : Int)) with h1 | h1
          · exact h1
          · rw [lb_two t1 (by omega)] at e0; exact e0
        have hlab : labE (lbX s (b : Int)) = 0 := by rw [x1, ← lb_lab t1 t2]; exact e0
        obtain ⟨c1, c2, c3⟩ := text_one s b t1
        obtain ⟨d1, d2, d3⟩ := text_one s _ t2
        rw [x2] at h
        obtain ⟨r, r1, r2, r3, r4, r5, r6, r7, r8⟩ := dec_one s c _ _ _ L N h (by omega)
        refine ⟨lbX s (b : Int) :: r, by rw [r1]; simp, by simp [r2], by omega, r4, ?_, ?_, List.pairwise_cons.2 ⟨r8, r7⟩, ?_⟩
        · rw [List.flatMap_cons, ← r5, ← seg_append s (b := txN s (txN s (b : Int) : Int)) (by omega) r3]
          congr 1
          rw [← seg_append s (b := txN s (b : Int)) (by omega) (by omega), c3, d3, x1]
          rfl
        · intro y hy
          rcases List.mem_cons.1 hy with rfl | hy
          · exact hlab
          · exact r6 y hy
        · intro y hy
          rcases List.mem_cons.1 hy with rfl | hy
          · exact e1
          · exact cmpS_ord.lt_le e1 (by have := r8 y hy; omega)
      · rw [dec_tw e0 e1] at h
        injection h with h1 h2
        injection h2 with h2 h3
        cases h3
    · rw [dec_lb e0] at h
      injection h with h1 h2
      injection h2 with h2 h3
      exact absurd h3 e0

/-- bytes that are read as a set are its one form -/
theorem decS_one {s : ByteArray} {b : Nat} {L : List Lab} {N : Nat} (h : decS s (b : Int) = (L, N, 0)) : setE L = 0 ∧ b ≤ N ∧ N ≤ s.size ∧ nums (encS L) = seg s b N := by
  have hE : rcE s (b : Int) = 0 := by
    unfold decS at h
    split at h
    · rename_i h1
      injection h with h1' h2
      injection h2 with h2 h3
    · rename_i h1; omega
  unfold decS at h
  rw [if_neg (by omega)] at h
  have hV : rcV s (b : Int) = rdV s (b : Int) := by unfold rcV; rw [if_pos hE]
  have hN : rcN s (b : Int) = rdN s (b : Int) := by unfold rcN; rw [if_pos hE]
  have hrE : rdE s (b : Int) = 0 := by
    unfold rcE at hE
    split at hE
    · rename_i h1; exact absurd hE h1
    · rename_i h1; omega
  have hcn : cntE (rdV s (b : Int)) = 0 := by
    unfold rcE at hE
    rw [if_neg (fun k => k hrE)] at hE
    exact hE
  have hb : b < s.size := by
    rcases Nat.lt_or_ge b s.size with h1 | h1
    · exact h1
    · rw [rdE_out s (b : Int) (.inr (by omega))] at hrE; cases hrE
  obtain ⟨f1, f2, f3⟩ := one_form s b hb hrE
  rw [hV, hN] at h
  obtain ⟨r, r1, r2, r3, r4, r5, r6, r7, r8⟩ := dec_one s _ _ _ _ L N h f2
  rw [List.nil_append] at r1
  subst r1
  have hc : 1 ≤ L.length ∧ L.length ≤ 8 := by
    rw [r2]
    unfold cntE at hcn
    split at hcn
    · cases hcn
    · split at hcn
      · cases hcn
      · omega
  have hchk : chk L = 0 := (chk_zero L).2 ⟨hc.1, hc.2, r6, r7.apart⟩
  have hset : setE L = 0 := by rw [setE_eq, if_neg (by omega), if_pos ((valid_iff L).2 ⟨hchk, r7⟩)]
  refine ⟨hset, by omega, r4, ?_⟩
  unfold encS
  rw [if_pos hset, encK_nums L L.length (Nat.le_refl _), List.take_length, ← r5, r2, ← f3, seg_extract, seg_append s (by omega) r3]

/-- a set's bytes are read again -/
theorem decS_back {s : ByteArray} {b : Nat} {L : List Lab} {R : List Nat} (h : setE L = 0) (hp : Piece s b (nums (encS L)) R) : decS s (b : Int) = (L, b + (encS L).size, 0) := by
  have hchk := set_chk h
  have hv : validB L = true := by unfold validB; rw [h]; rfl
  have ha := ((valid_iff L).1 hv).2
  obtain ⟨h1, h8, hf, _⟩ := (chk_zero L).1 hchk
  have he : encS L = encK L L.length := by unfold encS; rw [if_pos h]
  have hsz : (encS L).size = (nums (encS L)).length := (nums_length _).symm
  rw [hsz]
  rw [he, encK_nums L L.length (Nat.le_refl _), List.take_length] at hp ⊢
  have hu : nums (uintS L.length) = Var.vl 9 L.length := by unfold uintS; rw [strN_nums _ (fun x hx => Var.vl_lt 9 L.length (Nat.lt_of_le_of_lt h8 (by decide)) x hx)]
  have hp1 := hp.first
  rw [hu] at hp1
  obtain ⟨u1, u2, u3⟩ := uint_back s b L.length _ (by omega) hp1
  have hE : rcE s (b : Int) = 0 := by
    unfold rcE
    rw [if_neg (fun k => k u1), u2]
    unfold cntE
    rw [if_neg (by omega), if_neg (by omega)]
  unfold decS
  rw [if_neg (by omega), (by unfold rcV; rw [if_pos hE] : rcV s (b : Int) = rdV s (b : Int)), (by unfold rcN; rw [if_pos hE] : rcN s (b : Int) = rdN s (b : Int)), u2, u3, ← hu]
  rw [dec_back s L _ _ [] R hp.next hf (.inl rfl) ha, List.length_append]
  simp [Nat.add_assoc]
end Go.Proofs.Ytcpkogboaniehaa.Lab
