/-
  Tables and packed sets are read again: own text, without the program's walks.
-/
import Derived.Test.YtcpkogboaniehaaSEnc
import Derived.Test.YtcpkogboaniehaaSUnp4
import Derived.Test.YtcpkogboaniehaaSPack
import Derived.Test.YtcpkogboaniehaaLPureD
namespace Go.Proofs.Ytcpkogboaniehaa.Sym
open Go.RowKit Go Go.Proofs.Ytcpkogboaniehaa.Base Go.Proofs.Ytcpkogboaniehaa.Lab Go.Shelf Go.Sort Go.Proofs.Ytcpkogboaniehaa.Enc

/-! ### a table's bytes -/

/-- c texts that are read behind acc -/
def dtAux (s : ByteArray) : Nat → Nat → List ByteArray → List ByteArray × Nat × Nat
  | 0, a, acc => (acc, a, 0)
  | c + 1, a, acc => if txE s (a : Int) ≠ 0 then ([], 0, txE s (a : Int)) else if 0 < acc.length ∧ ¬ cmpS acc[acc.length - 1]! (txS s (a : Int)) < 0 then ([], 0, 90) else dtAux s c (txN s (a : Int)) (acc ++ [txS s (a : Int)])
def dtS (s : ByteArray) (a : Int) : List ByteArray × Nat × Nat := if rdE s a ≠ 0 then ([], 0, rdE s a) else dtAux s (rdV s a) (rdN s a) []
theorem dt_err {s : ByteArray} {c a : Nat} {acc : List ByteArray} (h : txE s (a : Int) ≠ 0) : dtAux s (c + 1) a acc = ([], 0, txE s (a : Int)) := by
  rw [dtAux, if_pos h]
theorem dt_ord {s : ByteArray} {c a : Nat} {acc : List ByteArray} (h : txE s (a : Int) = 0) (h2 : 0 < acc.length ∧ ¬ cmpS acc[acc.length - 1]! (txS s (a : Int)) < 0) : dtAux s (c + 1) a acc = ([], 0, 90) := by
  rw [dtAux, if_neg (by omega), if_pos h2]
theorem dt_go {s : ByteArray} {c a : Nat} {acc : List ByteArray} (h : txE s (a : Int) = 0) (h2 : ¬ (0 < acc.length ∧ ¬ cmpS acc[acc.length - 1]! (txS s (a : Int)) < 0)) : dtAux s (c + 1) a acc = dtAux s c (txN s (a : Int)) (acc ++ [txS s (a : Int)]) := by
  rw [dtAux, if_neg (by omega), if_neg h2]

def texN (x : ByteArray) : List Nat := nums (textS x)
theorem tabK_nums (T : List ByteArray) : ∀ k, k ≤ T.length → nums (tabK T k) = nums (uintS T.length) ++ (T.take k).flatMap texN
  | 0, _ => by simp [tabK]
  | k + 1, h => by
    rw [tabK_succ, nums_append, tabK_nums T k (by omega), List.take_succ_eq_append_getElem (show k < T.length by omega), getElem!_pos T k (by omega), List.flatMap_append, List.append_assoc]
    simp [texN]
theorem dt_back (s : ByteArray) : ∀ (r : List ByteArray) (b : Nat) (acc : List ByteArray) (R : List Nat),
    Piece s b (r.flatMap texN) R → (∀ x ∈ r, x.size ≤ 1048576) → Ris (acc ++ r) → dtAux s r.length b acc = (acc ++ r, b + (r.flatMap texN).length, 0)
  | [], b, acc, R, _, _, _ => by simp [dtAux]
  | x :: r, b, acc, R, h, hf, hr => by
    have hx := hf x (by simp)
    rw [List.flatMap_cons] at h ⊢
    have hA : Piece s b (texN x) (r.flatMap texN ++ R) := h.first
    have l1 : (texN x).length = (Var.vl 9 x.size).length + x.size := by unfold texN; rw [nums_textS _ hx, List.length_append, nums_length]
    unfold texN at hA
    rw [nums_textS _ hx] at hA
    obtain ⟨a1, a2, a3⟩ := text_back s b x _ hx hA
    have ea : txN s (b : Int) = b + (texN x).length := by rw [a3]; omega
    have hno : ¬ (0 < acc.length ∧ ¬ cmpS acc[acc.length - 1]! (txS s (b : Int)) < 0) := by
      rintro ⟨h1, h2⟩
      rw [a2] at h2
      have := List.pairwise_append.1 hr
      exact h2 (this.2.2 acc[acc.length - 1]! (by rw [getElem!_pos acc (acc.length - 1) (by omega)]; exact List.getElem_mem _) x (by simp))
    rw [List.length_cons, dt_go a1 hno, a2, ea, dt_back s r _ (acc ++ [x]) R h.next (fun y hy => hf y (by simp [hy])) (by simpa using hr), List.length_append]
    simp [Nat.add_assoc]
theorem nums_uint {v : Nat} (h : v < 18446744073709551616) : nums (uintS v) = Var.vl 9 v := by
  unfold uintS
  rw [strN_nums _ (fun x hx => Var.vl_lt 9 v (Nat.lt_of_lt_of_le h (by decide)) x hx)]
/-- a table's bytes are read again -/
theorem dtS_back {T : List ByteArray} (hr : Ris T) (hz : ∀ x ∈ T, x.size ≤ 1048576) (hl : T.length < 4611686018427387904) : dtS (encT T) 0 = (T, (encT T).size, 0) := by
  have hn := tabK_nums T T.length (Nat.le_refl _)
  rw [List.take_length] at hn
  have hp : Piece (encT T) 0 (nums (uintS T.length) ++ T.flatMap texN) [] := ⟨Nat.zero_le _, by rw [List.drop_zero, List.append_nil]; exact hn⟩
  have hp1 := hp.first
  rw [nums_uint (by omega)] at hp1
  obtain ⟨u1, u2, u3⟩ := uint_back (encT T) 0 T.length _ (by omega) hp1
  have hp2 := hp.next
  have hsz : (encT T).size = (nums (uintS T.length)).length + (T.flatMap texN).length := by rw [← nums_length, encT, hn, List.length_append]
  rw [hsz]
  unfold dtS
  rw [Int.natCast_zero] at u1 u2 u3
  rw [if_neg (by omega), u2, u3, ← nums_uint (show T.length < 18446744073709551616 by omega), dt_back (encT T) T _ [] [] hp2 hz hr]
  simp

/-! ### packed sets -/

def symN (T : List ByteArray) (x : Lab) : List Nat := nums (uintS (numS T x.n)) ++ nums (uintS (numS T x.v))
theorem pk_all (T : List ByteArray) : ∀ (r : List Lab) (acc : ByteArray), (∀ x ∈ r, numE T x.n = 0 ∧ numE T x.v = 0) → (pkAux T r acc).2 = 0 ∧ nums (pkAux T r acc).1 = nums acc ++ r.flatMap (symN T)
  | [], acc, _ => by simp [pkAux]
  | x :: r, acc, h => by
    have hx := h x (by simp)
    rw [pkAux, if_neg (by omega)]
    obtain ⟨h1, h2⟩ := pk_all T r (acc ++ uintS (numS T x.n) ++ uintS (numS T x.v)) (fun y hy => h y (by simp [hy]))
    refine ⟨h1, ?_⟩
    rw [h2, nums_append, nums_append, List.flatMap_cons, symN]
    simp
theorem sy_back {T : List ByteArray} {s : ByteArray} {b : Nat} {t : ByteArray} {R : List Nat} (hl : T.length < 4611686018427387904) (ht : numE T t = 0) (h : Piece s b (nums (uintS (numS T t))) R) :
    syE T s (b : Int) = 0 ∧ syS T s (b : Int) = t ∧ syN T s (b : Int) = b + (nums (uintS (numS T t))).length := by
  obtain ⟨h1, h2⟩ := numE_zero ht
  have hu := nums_uint (v := numS T t) (by omega)
  rw [hu] at h ⊢
  obtain ⟨a1, a2, a3⟩ := uint_back s b _ _ (by omega) h
  have e0 : syE T s (b : Int) = 0 := by unfold syE; rw [if_neg (by omega), a2]; unfold luE; rw [if_pos h1]
  refine ⟨e0, ?_, ?_⟩
  · unfold syS; rw [if_pos e0, a2]; unfold luS; rw [if_pos h1, h2]
  · unfold syN; rw [if_pos e0, a3]
theorem up_back {T : List ByteArray} (hl : T.length < 4611686018427387904) (s : ByteArray) : ∀ (r : List Lab) (b : Nat) (p : ByteArray) (acc : List Lab) (R : List Nat),
    Piece s b (r.flatMap (symN T)) R → (∀ x ∈ r, labE x = 0 ∧ numE T x.n = 0 ∧ numE T x.v = 0) → (p.size = 0 ∨ ∀ x ∈ r, cmpS p x.n < 0) → Go.Proofs.Ytcpkogboaniehaa.Lab.Asc r →
    upAux T s r.length b p acc = (acc ++ r, b + (r.flatMap (symN T)).length, 0)
  | [], b, p, acc, R, _, _, _, _ => by simp [upAux]
  | x :: r, b, p, acc, R, h, hf, hp, ha => by
    obtain ⟨hx, hx1, hx2⟩ := hf x (by simp)
    obtain ⟨n1, n2⟩ := labE_fit hx
    have s1 := fitN_size n1
    rw [List.flatMap_cons] at h ⊢
    have hA : Piece s b (nums (uintS (numS T x.n))) (nums (uintS (numS T x.v)) ++ (r.flatMap (symN T) ++ R)) := h.first.first (L := nums (uintS (numS T x.n))) (M := nums (uintS (numS T x.v)))
    have hB : Piece s (b + (nums (uintS (numS T x.n))).length) (nums (uintS (numS T x.v))) (r.flatMap (symN T) ++ R) := (h.first.next (L := nums (uintS (numS T x.n))) (M := nums (uintS (numS T x.v))))
    have l3 : (symN T x).length = (nums (uintS (numS T x.n))).length + (nums (uintS (numS T x.v))).length := by rw [symN, List.length_append]
    obtain ⟨a1, a2, a3⟩ := sy_back hl hx1 hA
    obtain ⟨b1, b2, b3⟩ := sy_back hl hx2 hB
    rw [← a3] at b1 b2 b3
    have hE : slE T s (b : Int) = 0 := by rw [sl_lab a1 b1, a2, b2]; exact hx
    obtain ⟨x1, x2⟩ := sl_x hE
    rw [a2, b2] at x1
    have x3 : slN T s (b : Int) = b + (symN T x).length := by rw [x2, b3, a3]; omega
    have hlt : cmpS p (slX T s (b : Int)).n < 0 := by
      rw [x1]
      rcases hp with h0 | h0
      · have : p = ByteArray.empty := by
          apply nums_inj
          have := nums_length p
          rw [h0] at this
          rw [List.eq_nil_of_length_eq_zero this]
          rfl
        rw [this]
        exact cmp_empty s1.1
      · exact h0 x (by simp)
    have ha2 := List.pairwise_cons.1 ha
    rw [List.length_cons, up_go hE hlt, x1, x3, up_back hl s r _ x.n (acc ++ [x]) R h.next (fun y hy => hf y (by simp [hy])) (.inr ha2.1) ha2.2, List.length_append]
    simp [Nat.add_assoc]
/-- a packed set is unpacked again -/
theorem upS_back {T : List ByteArray} (hl : T.length < 4611686018427387904) {s : ByteArray} {b : Nat} {L : List Lab} {R : List Nat} (h : setE L = 0) (hin : ∀ x ∈ L, numE T x.n = 0 ∧ numE T x.v = 0) (hp : Piece s b (nums (pkS T L).1) R) :
    (pkS T L).2 = 0 ∧ upS T s (b : Int) = (L, b + (pkS T L).1.size, 0) := by
  have hchk := set_chk h
  have hv : validB L = true := by unfold validB; rw [h]; rfl
  have ha := ((valid_iff L).1 hv).2
  obtain ⟨h1, h8, hf, _⟩ := (chk_zero L).1 hchk
  have he : pkS T L = pkAux T L (uintS L.length) := by unfold pkS; rw [if_neg (by omega)]
  obtain ⟨p1, p2⟩ := pk_all T L (uintS L.length) hin
  have hsz : (pkS T L).1.size = (nums (uintS L.length)).length + (L.flatMap (symN T)).length := by rw [← nums_length, he, p2, List.length_append]
  rw [he, p2] at hp
  refine ⟨by rw [he]; exact p1, ?_⟩
  rw [hsz]
  have hp1 := hp.first
  rw [nums_uint (by omega)] at hp1
  obtain ⟨u1, u2, u3⟩ := uint_back s b L.length _ (by omega) hp1
  have hE : rcE s (b : Int) = 0 := by
    unfold rcE
    rw [if_neg (fun k => k u1), u2]
    unfold cntE
    rw [if_neg (by omega), if_neg (by omega)]
  unfold upS
  rw [if_neg (by omega), (by unfold rcV; rw [if_pos hE] : rcV s (b : Int) = rdV s (b : Int)), (by unfold rcN; rw [if_pos hE] : rcN s (b : Int) = rdN s (b : Int)), u2, u3, ← nums_uint (show L.length < 18446744073709551616 by omega)]
  rw [up_back hl s L _ _ [] R hp.next (fun x hx => ⟨hf x hx, hin x hx⟩) (.inl rfl) ha]
  simp [Nat.add_assoc]

end Go.Proofs.Ytcpkogboaniehaa.Sym
