/-
  A set out of its packed bytes: contracts of readSymbol, readCount, readLabel. Own text.
-/
import Derived.Test.YtcpkogboaniehaaSMem
import Derived.Test.YtcpkogboaniehaaLDec2
namespace Go.Proofs.Ytcpkogboaniehaa.Sym
open Go.RowKit Go Go.Proofs.Ytcpkogboaniehaa.Base Go.Proofs.Ytcpkogboaniehaa.Lab Go.Shelf Go.Sort Go.Proofs.Ytcpkogboaniehaa.Enc

/-- a symbol that is read: its error, its text, where it ends -/
def syE (T : List ByteArray) (s : ByteArray) (a : Int) : Nat := if rdE s a ≠ 0 then rdE s a else luE T (rdV s a)
def syS (T : List ByteArray) (s : ByteArray) (a : Int) : ByteArray := if syE T s a = 0 then luS T (rdV s a) else ByteArray.empty
def syN (T : List ByteArray) (s : ByteArray) (a : Int) : Nat := if syE T s a = 0 then rdN s a else 0
/-- a label that is read -/
def slE (T : List ByteArray) (s : ByteArray) (a : Int) : Nat := if syE T s a ≠ 0 then syE T s a else if syE T s (syN T s a : Int) ≠ 0 then syE T s (syN T s a : Int) else labE ⟨syS T s a, syS T s (syN T s a : Int)⟩
def slX (T : List ByteArray) (s : ByteArray) (a : Int) : Lab := if slE T s a = 0 then ⟨syS T s a, syS T s (syN T s a : Int)⟩ else ⟨ByteArray.empty, ByteArray.empty⟩
def slN (T : List ByteArray) (s : ByteArray) (a : Int) : Nat := if slE T s a = 0 then syN T s (syN T s a : Int) else 0
/-- c labels that are read behind acc, the last of which has the name p -/
def upAux (T : List ByteArray) (s : ByteArray) : Nat → Nat → ByteArray → List Lab → List Lab × Nat × Nat
  | 0, a, _, acc => (acc, a, 0)
  | c + 1, a, p, acc => if slE T s (a : Int) ≠ 0 then ([], 0, slE T s (a : Int)) else if ¬ cmpS p (slX T s (a : Int)).n < 0 then ([], 0, 42) else upAux T s c (slN T s (a : Int)) (slX T s (a : Int)).n (acc ++ [slX T s (a : Int)])
def upS (T : List ByteArray) (s : ByteArray) (a : Int) : List Lab × Nat × Nat := if rcE s a ≠ 0 then ([], 0, rcE s a) else upAux T s (rcV s a) (rcN s a) ByteArray.empty []

theorem up_lb {T : List ByteArray} {s : ByteArray} {c a : Nat} {p : ByteArray} {acc : List Lab} (h : slE T s (a : Int) ≠ 0) : upAux T s (c + 1) a p acc = ([], 0, slE T s (a : Int)) := by
  rw [upAux, if_pos h]
theorem up_tw {T : List ByteArray} {s : ByteArray} {c a : Nat} {p : ByteArray} {acc : List Lab} (h : slE T s (a : Int) = 0) (h2 : ¬ cmpS p (slX T s (a : Int)).n < 0) : upAux T s (c + 1) a p acc = ([], 0, 42) := by
  rw [upAux, if_neg (by omega), if_pos h2]
theorem up_go {T : List ByteArray} {s : ByteArray} {c a : Nat} {p : ByteArray} {acc : List Lab} (h : slE T s (a : Int) = 0) (h2 : cmpS p (slX T s (a : Int)).n < 0) : upAux T s (c + 1) a p acc = upAux T s c (slN T s (a : Int)) (slX T s (a : Int)).n (acc ++ [slX T s (a : Int)]) := by
  rw [upAux, if_neg (by omega), if_neg (by omega)]

theorem upAux_len (T : List ByteArray) (s : ByteArray) : ∀ (c a : Nat) (p : ByteArray) (acc : List Lab), (upAux T s c a p acc).1.length ≤ acc.length + c
  | 0, a, p, acc => by simp [upAux]
  | c + 1, a, p, acc => by
    rw [upAux]
    split
    · simp
    · split
      · simp
      · have := upAux_len T s c (slN T s (a : Int)) (slX T s (a : Int)).n (acc ++ [slX T s (a : Int)])
        rw [List.length_append] at this
        simp only [List.length_cons, List.length_nil] at this
        omega
theorem up_len (T : List ByteArray) (s : ByteArray) (a : Int) : (upS T s a).1.length ≤ 8 := by
  unfold upS
  split
  · simp
  · have := upAux_len T s (rcV s a) (rcN s a) ByteArray.empty []
    have := rcV_le s a
    simp only [List.length_nil] at *
    omega

set_option maxRecDepth 100000 in
theorem readSymbol_any {p : Value} {T : List ByteArray} {ao : Option Addr} {cap : Nat} (w : World) (h : TabAt w p T ao cap) (s : ByteArray) (a : Int) (hs : s.size ≤ 140737488351232) :
    Calls Try.prog 61 #[p, .string s, .int .i64 a] w fun e w' => e = .returned (.tuple #[.string (syS T s a), .int .i64 (syN T s a : Int), .int .i64 (syE T s a : Int)]) ∧ w = w' := by
  have h1 := readUint_any s a hs w
  have h2 := lookUp_any w h (rdV s a)
  clear h
  by_cases e0 : rdE s a = 0
  · have k0 : syE T s a = luE T (rdV s a) := by unfold syE; rw [if_neg (fun h => h e0)]
    rw [e0] at h1
    by_cases f0 : luE T (rdV s a) = 0
    · have k1 : syS T s a = luS T (rdV s a) := by unfold syS; rw [if_pos (by rw [k0]; exact f0)]
      have k2 : syN T s a = rdN s a := by unfold syN; rw [if_pos (by rw [k0]; exact f0)]
      rw [k0, k1, k2, f0]
      rw [f0] at h2
      generalize luS T (rdV s a) = X at *
      generalize rdV s a = V at *
      generalize rdN s a = N at *
      have H1 := Lib.hid h1
      have H2 := Lib.hid h2
      clear h1 h2 e0 f0 k0 k1 k2
      go_enter Try.func61, Try.ntmps61
      go_wp2_with (first
        | (go_at_call 50; refine H1.out.mono ?_; rintro e w' ⟨rfl, rfl⟩)
        | (go_at_call 32; refine H2.out.mono ?_; rintro e w' ⟨rfl, rfl⟩))
      go_ret3
      exact ⟨rfl, rfl⟩
    · have k1 : syS T s a = ByteArray.empty := by unfold syS; rw [if_neg (by rw [k0]; exact f0)]
      have k2 : syN T s a = 0 := by unfold syN; rw [if_neg (by rw [k0]; exact f0)]
      rw [k0, k1, k2]
      have g1 : ((luE T (rdV s a) : Int) != 0) = true := by rw [bne_iff_ne]; omega
      generalize luS T (rdV s a) = X at *
      generalize luE T (rdV s a) = E at *
      generalize rdV s a = V at *
      generalize rdN s a = N at *
      have H1 := Lib.hid h1
      have H2 := Lib.hid h2
      clear h1 h2 e0 f0 k0 k1 k2
      go_enter Try.func61, Try.ntmps61
      go_wp2_with (first
        | (go_at_call 50; refine H1.out.mono ?_; rintro e w' ⟨rfl, rfl⟩)
        | (go_at_call 32; refine H2.out.mono ?_; rintro e w' ⟨rfl, rfl⟩))
      go_ret3
      exact ⟨rfl, rfl⟩
  · have k0 : syE T s a = rdE s a := by unfold syE; rw [if_pos e0]
    have k1 : syS T s a = ByteArray.empty := by unfold syS; rw [if_neg (by rw [k0]; exact e0)]
    have k2 : syN T s a = 0 := by unfold syN; rw [if_neg (by rw [k0]; exact e0)]
    rw [k0, k1, k2]
    have g1 : ((rdE s a : Int) != 0) = true := by rw [bne_iff_ne]; omega
    generalize rdE s a = E at *
    generalize rdV s a = V at *
    generalize rdN s a = N at *
    have H1 := Lib.hid h1
    clear h1 h2 e0 k0 k1 k2
    go_enter Try.func61, Try.ntmps61
    go_wp2_with (go_at_call 50; refine H1.out.mono ?_; rintro e w' ⟨rfl, rfl⟩)
    go_ret3
    exact ⟨rfl, rfl⟩

set_option maxRecDepth 100000 in
theorem readCount_any (s : ByteArray) (a : Int) (hs : s.size ≤ 140737488351232) (w : World) :
    Calls Try.prog 40 #[.string s, .int .i64 a] w fun e w' => e = .returned (.tuple #[.int .u64 (rcV s a : Int), .int .i64 (rcN s a : Int), .int .i64 (rcE s a : Int)]) ∧ w = w' := by
  have h1 := readUint_any s a hs w
  have hv := rdV_lt s a
  by_cases e0 : rdE s a = 0
  · have k0 : rcE s a = cntE (rdV s a) := by unfold rcE; rw [if_neg (fun h => h e0)]
    rw [e0] at h1
    have k1 : rcV s a = if cntE (rdV s a) = 0 then rdV s a else 0 := by unfold rcV; rw [k0]
    have k2 : rcN s a = if cntE (rdV s a) = 0 then rdN s a else 0 := by unfold rcN; rw [k0]
    rw [k0, k1, k2]
    clear k0 k1 k2
    generalize rdV s a = V at *
    generalize rdN s a = N at *
    have H1 := Lib.hid h1
    clear h1 e0
    by_cases v0 : V = 0
    · subst v0
      clear hv
      rw [(rfl : cntE 0 = 43), if_neg (by decide), if_neg (by decide)]
      go_enter Try.func40, Try.ntmps40
      go_wp2_with (go_at_call 50; refine H1.out.mono ?_; rintro e w' ⟨rfl, rfl⟩)
      go_ret3
      exact ⟨rfl, rfl⟩
    · have v1 : ((V : Int) == 0) = false := by rw [beq_eq_false_iff_ne]; omega
      by_cases v8 : 8 < V
      · have hc : cntE V = 44 := by unfold cntE; rw [if_neg v0, if_pos v8]
        rw [hc, if_neg (by decide), if_neg (by decide)]
        have v9 : (8 : Int) < (V : Int) := by omega
        clear hc hv v0 v8
        go_enter Try.func40, Try.ntmps40
        go_wp2_with (go_at_call 50; refine H1.out.mono ?_; rintro e w' ⟨rfl, rfl⟩)
        go_ret3
        exact ⟨rfl, rfl⟩
      · have hc : cntE V = 0 := by unfold cntE; rw [if_neg v0, if_neg v8]
        rw [hc, if_pos rfl, if_pos rfl]
        have v9 : ¬ (8 : Int) < (V : Int) := by omega
        clear hc hv v0 v8
        go_enter Try.func40, Try.ntmps40
        go_wp2_with (go_at_call 50; refine H1.out.mono ?_; rintro e w' ⟨rfl, rfl⟩)
        go_ret3
        exact ⟨rfl, rfl⟩
  · have e1 : rcE s a = rdE s a := by unfold rcE; rw [if_pos e0]
    have e2 : rcV s a = 0 := by unfold rcV; rw [if_neg (by rw [e1]; exact e0)]
    have e3 : rcN s a = 0 := by unfold rcN; rw [if_neg (by rw [e1]; exact e0)]
    rw [e1, e2, e3]
    have g1 : ((rdE s a : Int) != 0) = true := by rw [bne_iff_ne]; omega
    clear e1 e2 e3
    generalize rdE s a = E at *
    generalize rdV s a = V at *
    generalize rdN s a = N at *
    have H1 := Lib.hid h1
    clear h1 e0 hv
    go_enter Try.func40, Try.ntmps40
    go_wp2_with (go_at_call 50; refine H1.out.mono ?_; rintro e w' ⟨rfl, rfl⟩)
    go_ret3
    exact ⟨rfl, rfl⟩

theorem chk_one (x : Lab) : chk [x] = labE x := by
  unfold chk
  rw [if_neg (by simp [cntE])]
  unfold chkAux
  by_cases h : labE x = 0
  · rw [if_neg (by omega), h]
    simp [has, chkAux]
  · rw [if_pos h]

/-- Make of one label: its error -/
theorem make_one (x : Lab) (W : World) (b : Nat) (hb : b < W.heap.size) (h0 : W.cell? ⟨b, 0, none⟩ = some (.string x.n)) (h1 : W.cell? ⟨b, 1, none⟩ = some (.string x.v)) :
    Calls Try.prog 62 #[.slice (some ⟨b, 0, none⟩) 1 1] W fun e w' => ∃ v, e = .returned (.tuple #[v, .int .i64 (labE x : Int)]) ∧ Below W.heap.size W w' := by
  have h := make_any (some ⟨b, 0, none⟩) 1 [x] W (by simp) (by simp) (fun j hj => by
    have hj0 : j = 0 := by simpa using hj
    subst hj0
    exact ⟨b, 0, rfl, hb, by simpa using h0, by simpa using h1⟩)
  rw [chk_one] at h
  exact h.mono fun e w' ⟨v, e1, _, e3⟩ => ⟨v, e1, e3⟩

end Go.Proofs.Ytcpkogboaniehaa.Sym
