/-
  A writer's bytes as a text; the closed law's helper 'wakes'. Own text.
-/
import Derived.Test.YtmenhgdedllioaaPut
import Derived.Lib.Hide
namespace Go.Proofs.Ytmenhgdedllioaa.Bits
open Go.RowKit Go

/-- bytes as a text -/
def strN (l : List Nat) : ByteArray := ⟨(l.map UInt8.ofNat).toArray⟩
theorem strN_size (l : List Nat) : (strN l).size = l.length := by simp [strN, ByteArray.size]
theorem strN_nums (l : List Nat) (h : ∀ x ∈ l, x < 256) : nums (strN l) = l := by
  unfold nums strN
  simp only [List.map_map]
  have : ∀ x ∈ l, (UInt8.toNat ∘ UInt8.ofNat) x = x := by
    intro x hx
    have := h x hx
    simp only [Function.comp]
    rw [UInt8.toNat_ofNat']
    omega
  conv => rhs; rw [← List.map_id l]
  exact List.map_congr_left this
theorem strN_of (l : List Nat) : strOfNums (l.map fun (n : Nat) => (n : Int)) = strN l := by
  unfold strOfNums strN
  congr 2
  rw [List.map_map]
  rfl

theorem conv_own {w : World} {B n : Nat} {v : Value} {l : List Nat} (h : w.ownsRow B 5 1 v n (u8s l)) :
    (convert 24 9 v).run Try.prog w = .ok (.string (strN l)) w := by
  rcases h.2 with ⟨rfl, h0⟩ | ⟨g, cap, cur, rfl, _, _, _⟩
  · have hl : l = [] := by
      have := h.1
      rw [u8s_length, h0] at this
      exact List.eq_nil_of_length_eq_zero (by omega)
    subst hl
    exact run_convert_bytes_nil w 24 5 Try.underlying24 Try.underlying5 0 0 9 Try.underlying9
  · have hlen : l.length = n := by have := h.1; rw [u8s_length] at this; omega
    rw [← strN_of]
    refine run_convert_bytes_arg w 24 5 Try.underlying24 Try.underlying5 g 0 n cap (l.map fun (n : Nat) => (n : Int)) (by simpa using hlen) ?_ 9 Try.underlying9
    intro i hi
    rw [Nat.zero_add, h.cellAt i (by omega)]
    simp [u8s, List.getD, hlen, hi]

theorem bytes_any {B p : Nat} {v : Value} {N c : Nat} (w : World) (h : Wr w B p v N c) :
    Calls Try.prog 11 #[.pointer (some ⟨p, 0, none⟩)] w fun e w' => e = .returned (.string (strN (Num.packB N c))) ∧ w = w' := by
  have g0 := h.c0
  have hr := conv_own h.own
  clear h
  go_enter Try.func11, Try.ntmps11
  go_wp2
  go_ret
  exact ⟨rfl, rfl⟩

/-- a new writer -/
theorem Wr.new (w : World) (B : Nat) : Wr (w.alloc (.cells #[.slice none 0 0, .int .i64 0] 26)) B w.heap.size (.slice none 0 0) 0 0 :=
  ⟨heap_alloc_new w _, World.ownsRow_nil _ _ _ _⟩

theorem put_int {B p N c : Nat} {v : Value} (x n : Int) (w : World) (h : Wr w B p v N c) (hx0 : 0 ≤ x) (hx : x < 18446744073709551616) (hc : c ≤ 562949953421312) (hB : B ≤ w.heap.size) :
    Calls Try.prog 8 #[.pointer (some ⟨p, 0, none⟩), .int .u64 x, .int .i64 n] w fun e w' => e = .returned (.tuple #[]) ∧ ∃ v', Wr w' B p v' (Num.putN N x.toNat (wide n)) (c + wide n) ∧ Tch w w' p v v' := by
  obtain ⟨y, rfl⟩ := Int.eq_ofNat_of_zero_le hx0
  exact put_any y n w h (by omega) hc hB

/-- all that there was before a writer's making is as it was -/
theorem Tch.below {a w w' : World} {B p : Nat} {v v' : Value} (h : Tch w w' p v v') (hB : B ≤ w.heap.size) (hp : B ≤ p) (hv : ∀ k, v.ownBlock = some k → B ≤ k) (hb : Below B a w) : Below B a w' :=
  hb.trans ⟨h.os, h.tape, h.output, h.size, fun k hk => h.block k (by omega) (by omega) (fun e => by have := hv k e; omega)⟩

theorem Wr.row {w : World} {B p : Nat} {v : Value} {N c : Nat} (h : Wr w B p v N c) : ∀ k, v.ownBlock = some k → B ≤ k := fun k hk => (h.own.lt k hk).1

theorem own_same {w w' : World} {B n : Nat} {e : TypeId} {v : Value} {xs : List Value} (h : w.ownsRow B e 1 v n xs) (hs : ∀ k, v.ownBlock = some k → w'.heap[k]? = w.heap[k]?) : w'.ownsRow B e 1 v n xs := by
  refine ⟨h.1, ?_⟩
  rcases h.2 with hn | ⟨g, cap, cur, rfl, hb, hh, r⟩
  · exact .inl hn
  · exact .inr ⟨g, cap, cur, rfl, hb, by rw [hs g rfl]; exact hh, r⟩
theorem Wr.later {w w' : World} {B p : Nat} {v : Value} {N c : Nat} (h : Wr w B p v N c) (hb : Below w.heap.size w w') : Wr w' B p v N c :=
  ⟨by rw [hb.block _ h.lt]; exact h.blk, own_same h.own fun k hk => hb.block k (h.own.lt k hk).2⟩
theorem Rd.later {w w' : World} {r a : Nat} {s : ByteArray} (h : Rd w r s a) (hb : Below w.heap.size w w') : Rd w' r s a := ⟨by rw [hb.block _ h.lt]; exact h.blk⟩
theorem below_alloc (w : World) (o : Obj) : Below w.heap.size w (w.alloc o) := (Below.refl _ _).alloc (Nat.le_refl _) _

theorem wakes_any (w : World) : Calls Try.prog 13 #[] w fun e w' => e = .returned (.bool true) ∧ Below w.heap.size w w' := by
  have hsz : w.heap.size ≤ (w.alloc (.cells #[.slice none 0 0, .int .i64 0] 26)).heap.size := by simp
  have hb0 : Below w.heap.size w (w.alloc (.cells #[.slice none 0 0, .int .i64 0] 26)) := (Below.refl _ _).alloc (Nat.le_refl _) _
  have hw0 := Wr.new w w.heap.size
  go_enter Try.func13, Try.ntmps13
  go_wp2_with fail
  refine (put_int 5 3 _ hw0 (by decide) (by decide) (by omega) hsz).mono ?_
  rintro e w1 ⟨rfl, v1, hw1, ht1⟩
  have hb1 := ht1.below hsz (Nat.le_refl _) hw0.row hb0
  have hs1 := Nat.le_trans hsz ht1.size
  clear ht1 hb0 hsz hw0
  go_wp2_with fail
  refine (put_int 255 2 _ hw1 (by decide) (by decide) (by have := wide_le 3; omega) hs1).mono ?_
  rintro e w2 ⟨rfl, v2, hw2, ht2⟩
  have hb2 := ht2.below hs1 (Nat.le_refl _) hw1.row hb1
  clear ht2 hb1 hs1 hw1
  have hw : Wr w2 w.heap.size w.heap.size v2 23 5 := hw2
  clear hw2
  have hl : Calls Try.prog 10 #[.pointer (some ⟨w.heap.size, 0, none⟩)] w2 fun e w' => e = .returned (.int .i64 5) ∧ w2 = w' := len_any w2 hw
  have hy : Calls Try.prog 11 #[.pointer (some ⟨w.heap.size, 0, none⟩)] w2 fun e w' => e = .returned (.string ⟨#[184]⟩) ∧ w2 = w' := bytes_any w2 hw
  have Hl := Lib.hid hl
  have Hy := Lib.hid hy
  clear hl hy hw
  go_wp2_with (first | (go_at_call 10; refine Hl.out.mono ?_; rintro e w' ⟨rfl, rfl⟩) | (go_at_call 11; refine Hy.out.mono ?_; rintro e w' ⟨rfl, rfl⟩))
  go_ret
  exact ⟨rfl, hb2⟩

end Go.Proofs.Ytmenhgdedllioaa.Bits
