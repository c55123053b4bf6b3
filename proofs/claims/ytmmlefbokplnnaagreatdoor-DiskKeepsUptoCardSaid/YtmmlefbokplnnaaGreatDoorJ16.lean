/-
  The texts DFlip, joined. Own text.
-/
import Derived.Test.YtmmlefbokplnnaaGreatDoorJ14
import Derived.Laws.BitsAllLaws
set_option linter.unusedVariables false
set_option linter.unusedSimpArgs false
namespace Go.Proofs.YtmmlefbokplnnaaGreatDoor.Disk
open Go.RowKit Go Go.Proofs.YtmmlefbokplnnaaGreatDoor.Base Go.Proofs.YtmmlefbokplnnaaGreatDoor.Map

/-- what Read tells -/
def readCode (G : DiskG) (p : ByteArray) (a n : Int) : Nat :=
  if openCode G p ≠ 0 then openCode G p else if a < 0 ∨ (((pfAt G ((fileOf G.gc p).getD 0)).bytes.length : Nat) : Int) < a ∨ n < 0 ∨ (((pfAt G ((fileOf G.gc p).getD 0)).bytes.length : Nat) : Int) - a < n then 6 else 0
def readText (G : DiskG) (p : ByteArray) (a n : Int) : List Nat := if readCode G p a n = 0 then ((pfAt G ((fileOf G.gc p).getD 0)).bytes.drop a.toNat).take n.toNat else []

/-- bytes in the midst of a row, as a text -/
theorem conv_mid {w : World} {g L cap : Nat} {l : List Nat} (h : w.ownsRow 0 5 1 (.slice (some ⟨g, 0, none⟩) L cap) L (u8s l)) (a n c : Nat) (hm : a + n ≤ L) :
    (convert 91 9 (.slice (some ⟨g, a, none⟩) n c)).run Tryz.prog w = .ok (.string (strN ((l.drop a).take n))) w := by
  have hlen : l.length = L := by have := h.1; rw [u8s_length] at this; omega
  rw [← strN_of]
  refine run_convert_bytes_arg w 91 5 Tryz.underlying91 Tryz.underlying5 g a n c (((l.drop a).take n).map fun (n : Nat) => (n : Int)) (by simp; omega) ?_ 9 Tryz.underlying9
  intro i hi
  rw [h.cellAt (a + i) (by omega)]
  have h1 : a + i < l.length := by omega
  simp [u8s, List.getD, h1, List.getElem?_drop, hi]

set_option maxRecDepth 100000 in
set_option maxHeartbeats 4000000 in
theorem Read_any {w : World} {D : Nat} {G : DiskG} {E : Nat → Addr} (h : DiskAt w D G) (he : Env w E) (hn : NumsOk G) (p : ByteArray) (hp : p.size < 4294967281) (a n : Int) (ha : -9223372036854775808 ≤ a ∧ a ≤ 9223372036854775807) (hnn : -9223372036854775808 ≤ n ∧ n ≤ 9223372036854775807)
    (hfs : ∀ i, i < G.pfs.length → (pfAt G i).bytes.length < 549755813888) :
    Calls Tryz.prog 39 #[.pointer (some ⟨D, 0, none⟩), .string p, .int .i64 a, .int .i64 n] w fun r w' =>
      ∃ v, r = .returned (.tuple #[.string (strN (readText G p a n)), v]) ∧ ErrAt w' E v (readCode G p a n) "read".toUTF8 p ∧ Below w.heap.size w w' := by
  have ho := open_any h he p hp
  have h2 := fun W c => refused_err ⟨#[114, 101, 97, 100]⟩ p E (c + 1) W
  have H2 := Lib.hid h2
  unfold errV at H2
  clear h2
  by_cases hz : openCode G p = 0
  · obtain ⟨i, hfo, hv⟩ := open_file hz
    have hi := fileOf_lt hn hfo
    have hfile := h.parts.files i hi
    rw [pfAt_eq hi] at hfile
    have q1 := hfs i hi
    have hrc : readCode G p a n = (if a < 0 ∨ ((pfAt G i).bytes.length : Int) < a ∨ n < 0 ∨ ((pfAt G i).bytes.length : Int) - a < n then 6 else 0) := by
      unfold readCode; rw [if_neg (fun hh => hh hz), hfo, Option.getD_some]
    unfold readText
    rw [hrc, hfo, Option.getD_some]
    clear hrc
    obtain ⟨bs, hbs⟩ : ∃ bs, pfAt G i = bs := ⟨_, rfl⟩
    rw [hbs] at hfile q1 ⊢
    rw [hz, hv] at ho
    obtain ⟨L, hL⟩ : ∃ L, bs.bytes.length = L := ⟨_, rfl⟩
    rw [hL] at q1 ⊢
    have hrow := hfile.bytes
    rw [hL] at hrow
    have c0 : ∀ n, (w.drewN n).cell? ⟨G.ptr i, 0, none⟩ = some (G.bvs i) := fun n => hfile.cell0
    have g6 : ∀ q, (w.drewN q).cell? ⟨5, 0, none⟩ = some (errV E 6) := fun q => he.range
    unfold errV at g6
    unfold errV ptrV at ho
    have HR := Lib.hid hrow
    have HL := Lib.hid hL
    obtain ⟨ba, bc, hbv, hbc⟩ := row_len hrow
    rw [hbv] at c0 hrow
    have HROW := Lib.hid hrow
    clear h he hn hp hfo hv hi hfile hbs hfs hbv hL hz hrow
    by_cases hr : a < 0 ∨ (L : Int) < a ∨ n < 0 ∨ (L : Int) - a < n
    · rw [if_pos hr, if_neg (by decide)]
      have s0 : strN [] = ⟨#[]⟩ := rfl
      rw [s0]
      by_cases k1 : (0 : Int) ≤ a <;> by_cases k2 : a ≤ (L : Int) <;> by_cases k3 : (0 : Int) ≤ n <;> by_cases k4 : n ≤ (L : Int) - a
      all_goals first
        | (exfalso; omega)
        | skip
      all_goals
        have hsub : 0 ≤ a → a ≤ (L : Int) → IntKind.i64.wrap ((L : Int) - a) = (L : Int) - a := fun _ _ => by rw [IntWalk.i64_in _ (by omega)]
        first
          | (have hsub := hsub k1 k2)
          | clear hsub
        first
          | have b4 : decide (n ≤ (L : Int) - a) = true := decide_eq_true k4
          | have b4 : decide (n ≤ (L : Int) - a) = false := decide_eq_false k4
        clear hr k4
        go_enter Tryz.func39, Tryz.ntmps39
        go_wp2_with (first
          | (go_at_call 67; refine ho.mono ?_; rintro r w2 ⟨rfl, q, rfl⟩)
          | (go_at_call 55; ((with_reducible refine (H2.out _ 5).mono ?_); rintro r w3 ⟨v, rfl, hv, hb⟩)))
        go_ret2
        exact ⟨_, rfl, hv, ((Below.refl _ _).drewN q : Below w.heap.size w _).trans hb⟩
    · rw [if_neg hr, if_pos rfl]
      obtain ⟨A, rfl⟩ : ∃ A : Nat, a = (A : Int) := ⟨a.toNat, by omega⟩
      obtain ⟨N, rfl⟩ : ∃ N : Nat, n = (N : Int) := ⟨n.toNat, by omega⟩
      have k2 : A + N ≤ L := by omega
      clear hr
      rw [Int.toNat_natCast, Int.toNat_natCast]
      have hsub : IntKind.i64.wrap ((L : Int) - (A : Int)) = (L : Int) - (A : Int) := by rw [IntWalk.i64_in _ (by omega)]
      have b4 : decide ((N : Int) ≤ (L : Int) - (A : Int)) = true := decide_eq_true (by omega)
      have hlt1 : ¬ (bc < A + N) := by omega
      have hsubn : A + N - A = N := by omega
      rcases HROW.out.2 with ⟨h1, h0⟩ | ⟨g, cap, cur, h1, _⟩
      · injection h1 with h1 h2 h3
        subst h1 h3
        have hA : A = 0 := by omega
        have hN : N = 0 := by omega
        subst hA hN
        have hL0 : L = 0 := h0
        subst hL0
        have hcv : ∀ q, (convert 91 9 (.slice none 0 0)).run Tryz.prog (w.drewN q) = .ok (.string (strN ((bs.bytes.drop 0).take 0))) (w.drewN q) := fun q =>
          run_convert_bytes_nil (w.drewN q) 91 5 Tryz.underlying91 Tryz.underlying5 0 0 9 Tryz.underlying9
        go_enter Tryz.func39, Tryz.ntmps39
        go_wp2_with (go_at_call 67; refine ho.mono ?_; rintro r w2 ⟨rfl, q, rfl⟩)
        go_ret2
        exact ⟨_, rfl, .inl ⟨rfl, rfl⟩, (Below.refl _ _).drewN q⟩
      · injection h1 with h1 h2 h3
        subst h1
        obtain rfl : bc = cap := h3
        by_cases hcn : bc = A
        · have hN : N = 0 := by omega
          obtain rfl : A = L := by omega
          obtain rfl : bc = A := hcn
          subst hN
          have hzz : bc - bc = 0 := Nat.sub_self bc
          have hcv : ∀ q, (convert 91 9 (.slice (some ⟨g, 0, none⟩) 0 0)).run Tryz.prog (w.drewN q) = .ok (.string (strN ((bs.bytes.drop bc).take 0))) (w.drewN q) := fun q => by
            have := run_convert_bytes_arg (P := Tryz.prog) (w.drewN q) 91 5 Tryz.underlying91 Tryz.underlying5 g 0 0 0 [] rfl (fun i hi => by omega) 9 Tryz.underlying9
            exact this
          go_enter Tryz.func39, Tryz.ntmps39
          go_wp2_with (go_at_call 67; refine ho.mono ?_; rintro r w2 ⟨rfl, q, rfl⟩)
          go_ret2
          exact ⟨_, rfl, .inl ⟨rfl, rfl⟩, (Below.refl _ _).drewN q⟩
        · have hcv : ∀ q, (convert 91 9 (.slice (some ⟨g, A, none⟩) N (bc - A))).run Tryz.prog (w.drewN q) = .ok (.string (strN ((bs.bytes.drop A).take N))) (w.drewN q) := fun q =>
            conv_mid (w := w.drewN q) (row_of_block HROW.out (fun _ _ => rfl)) A N (bc - A) k2
          go_enter Tryz.func39, Tryz.ntmps39
          go_wp2_with (go_at_call 67; refine ho.mono ?_; rintro r w2 ⟨rfl, q, rfl⟩)
          go_ret2
          exact ⟨_, rfl, .inl ⟨rfl, rfl⟩, (Below.refl _ _).drewN q⟩
  · have hc0 : readCode G p a n = openCode G p := by unfold readCode; rw [if_pos hz]
    have e1 : readText G p a n = [] := by unfold readText; rw [hc0, if_neg hz]
    rw [e1, hc0]
    rw [open_none hz] at ho
    obtain ⟨c, hc⟩ : ∃ c, openCode G p = c + 1 := ⟨openCode G p - 1, by omega⟩
    rw [hc] at ho ⊢
    unfold errV at ho
    clear h he hn hp e1 hc hz hc0 hfs
    go_enter Tryz.func39, Tryz.ntmps39
    go_wp2_with (first
      | (go_at_call 67; refine ho.mono ?_; rintro r w2 ⟨rfl, n, rfl⟩)
      | (go_at_call 55; ((with_reducible refine (H2.out _ c).mono ?_); rintro r w3 ⟨v, rfl, hv, hb⟩)))
    go_ret2
    exact ⟨_, rfl, hv, ((Below.refl _ _).drewN n : Below w.heap.size w _).trans hb⟩

theorem Crash_any {w : World} {D : Nat} {G : DiskG} (h : DiskAt w D G) (n : Int) : Calls Tryz.prog 77 #[.pointer (some ⟨D, 0, none⟩), .int .i64 n] w fun r w' =>
    r = .returned (.tuple #[]) ∧ DiskAt w' D { G with crash := n.toNat } ∧ Turn (fun k => k = D) w w' := by
  have f6 := h.fro 6
  have c6 : w.cell? ⟨D, 6, none⟩ = some (.int .i64 (G.crash : Int)) := h.cell 6
  have HD := Lib.hid h
  clear h
  by_cases h0 : n ≤ 0
  all_goals
    go_enter Tryz.func77, Tryz.ntmps77
    go_wp2
    go_end0
    refine ⟨rfl, ?_, (Turn.refl _ w).set _ _ (fun _ => rfl)⟩
    refine HD.out.set 6 _ _ ?_ (fun hp => ⟨hp.cur, hp.dur, hp.trees, hp.row, hp.steps, hp.files, hp.inj, hp.bytes, hp.rows⟩)
    simp [DiskG.cells, topV]
    try omega

def flipCode (G : DiskG) (p : ByteArray) (a : Int) : Nat :=
  if openCode G p ≠ 0 then openCode G p else if a < 0 ∨ (((pfAt G ((fileOf G.gc p).getD 0)).bytes.length : Nat) : Int) ≤ a then 6 else 0
def flipped (b : List Nat) (a m : Nat) : List Nat := b.set a (b.getD a 0 ^^^ m)
def FlipDone (G : DiskG) (p : ByteArray) (a : Int) (m : Nat) (c : Nat) (G' : DiskG) : Prop :=
  (c ≠ 0 ∧ G' = G) ∨ (c = 0 ∧ ∃ i, fileOf G.gc p = some i ∧ G' = DiskG.file G i ⟨flipped (pfAt G i).bytes a.toNat m, []⟩ (G.bvs i) (.slice none 0 0))

/-- a byte of a row is stored -/
theorem row_set {w : World} {g L cap : Nat} {l : List Nat} (h : w.ownsRow 0 5 1 (.slice (some ⟨g, 0, none⟩) L cap) L (u8s l)) (a y : Nat) :
    (w.setCell ⟨g, a, none⟩ (.int .u8 (y : Int))).ownsRow 0 5 1 (.slice (some ⟨g, 0, none⟩) L cap) L (u8s (l.set a y)) := by
  rw [← u8s_set]
  refine ⟨by rw [List.length_set]; exact h.1, ?_⟩
  rcases h.2 with ⟨h1, _⟩ | ⟨g', cap', cur, h1, h2, h3, h4, h5, h6, h7⟩
  · cases h1
  · injection h1 with h1 _ h1c
    injection h1 with h1
    injection h1 with h1
    subst h1 h1c
    refine .inr ⟨g, cap, cur.setIfInBounds a (.int .u8 (y : Int)), rfl, h2, heap_setCell_same w g a cur _ _ h3, h4, h5, by simpa using h6, ?_⟩
    rw [Array.toList_setIfInBounds, ← h7, List.take_set]

set_option maxRecDepth 100000 in
set_option maxHeartbeats 4000000 in
theorem flip_any {w : World} {D : Nat} {G : DiskG} {E : Nat → Addr} (h : DiskAt w D G) (he : Env w E) (hn : NumsOk G) (p : ByteArray) (hp : p.size < 4294967281) (a : Int) (m : Nat) (hm : m < 256)
    (hfs : ∀ i, i < G.pfs.length → (pfAt G i).bytes.length < 549755813888) (h8 : ∀ i, i < G.pfs.length → ∀ x ∈ (pfAt G i).bytes, x < 256) :
    Calls Tryz.prog 107 #[.pointer (some ⟨D, 0, none⟩), .string p, .int .i64 a, .int .u8 (m : Int)] w fun r w' =>
      r = .returned (errV E (flipCode G p a)) ∧ ∃ G', DiskAt w' D G' ∧ Turn (G.own D) w w' ∧ FlipDone G p a m (flipCode G p a) G' ∧ (∀ k, G'.own D k → G.own D k ∨ w.heap.size ≤ k) := by
  have ho := open_any h he p hp
  by_cases hz : openCode G p = 0
  · obtain ⟨i, hfo, hv⟩ := open_file hz
    have hi := fileOf_lt hn hfo
    have hfile := h.parts.files i hi
    rw [pfAt_eq hi] at hfile
    have q1 := hfs i hi
    have hrc : flipCode G p a = (if a < 0 ∨ ((pfAt G i).bytes.length : Int) ≤ a then 6 else 0) := by
      unfold flipCode; rw [if_neg (fun hh => hh hz), hfo, Option.getD_some]
    rw [hrc]
    clear hrc
    obtain ⟨bs, hbs⟩ : ∃ bs, pfAt G i = bs := ⟨_, rfl⟩
    have hb8 := h8 i hi
    rw [hbs] at hfile q1 hb8 ⊢
    rw [hz, hv] at ho
    obtain ⟨L, hL⟩ : ∃ L, bs.bytes.length = L := ⟨_, rfl⟩
    rw [hL] at q1 ⊢
    have hrow := hfile.bytes
    rw [hL] at hrow
    have c0 : ∀ n, (w.drewN n).cell? ⟨G.ptr i, 0, none⟩ = some (G.bvs i) := fun n => hfile.cell0
    have g6 : ∀ q, (w.drewN q).cell? ⟨5, 0, none⟩ = some (errV E 6) := fun q => he.range
    unfold errV at g6
    unfold errV ptrV at ho
    have HBS := Lib.hid hbs
    have HL := Lib.hid hL
    have HD := Lib.hid h
    have HFI := Lib.hid hfile
    have Hfo := Lib.hid hfo
    have Hi := Lib.hid hi
    have H8 := Lib.hid hb8
    obtain ⟨ba, bc, hbv, hbc⟩ := row_len hrow
    rw [hbv] at c0 hrow
    have HROW := Lib.hid hrow
    have HBV := Lib.hid hbv
    clear h he hn hp hfo hv hi hfile hbs hfs hbv hL hz hrow h8 hb8
    by_cases hr : a < 0 ∨ (L : Int) ≤ a
    · rw [if_pos hr]
      unfold errV
      by_cases k1 : a < 0
      all_goals
        go_enter Tryz.func107, Tryz.ntmps107
        go_wp2_with (go_at_call 67; refine ho.mono ?_; rintro r w2 ⟨rfl, q, rfl⟩)
        go_ret
        exact ⟨rfl, G, HD.out.below ((Below.refl _ _).drewN q), Turn.of_drew q, .inl ⟨by decide, rfl⟩, fun k hk => .inl hk⟩
    · rw [if_neg hr]
      unfold errV
      obtain ⟨A, rfl⟩ : ∃ A : Nat, a = (A : Int) := ⟨a.toNat, by omega⟩
      have k1 : A < L := by omega
      clear hr
      rcases HROW.out.2 with ⟨h1, h0⟩ | ⟨g, cap, cur, h1, _, hblk, _⟩
      · omega
      · injection h1 with h1 h2 h3
        subst h1
        obtain rfl : bc = cap := h3
        have hAl : A < bs.bytes.length := by rw [HL.out]; exact k1
        obtain ⟨b0, hb0⟩ : ∃ b0, bs.bytes.getD A 0 = b0 := ⟨_, rfl⟩
        have hb0l : b0 < 256 := by rw [← hb0, List.getD, List.getElem?_eq_getElem hAl, Option.getD_some]; exact H8.out _ (List.getElem_mem hAl)
        have d1 : ∀ q, (w.drewN q).cell? ⟨g, A, none⟩ = some (.int .u8 (b0 : Int)) := fun q => by
          have := HROW.out.cells (g := g) rfl A (.int .u8 (b0 : Int)) (by rw [← hb0]; unfold u8s; rw [List.getElem?_map, List.getElem?_eq_getElem hAl, List.getD, List.getElem?_eq_getElem hAl]; rfl)
          rw [Go.WideShapes.add_plain, Nat.zero_add] at this
          exact this
        have d2 : ∀ q, (w.drewN q).frozen? ⟨g, A, none⟩ = false := fun q => by simp [World.frozen?, World.drewN, hblk]
        have hg1 : G.ptr i ≠ g := fun e => by have := HFI.out.apart.1; rw [HBV.out] at this; exact this (by rw [e]; rfl)
        have hblk1 : ∀ q v, ((w.drewN q).setCell ⟨g, A, none⟩ v).heap[G.ptr i]? = w.heap[G.ptr i]? := fun q v => Below.heap_setCell _ _ _ _ hg1
        have d3 : ∀ q v, ((w.drewN q).setCell ⟨g, A, none⟩ v).cell? ⟨G.ptr i, 1, none⟩ = some (G.svs i) := fun q v => by
          rw [World.cell?_of_block (w := w) (hblk1 q v)]; exact HFI.out.cell1
        have d4 : ∀ q v, ((w.drewN q).setCell ⟨g, A, none⟩ v).frozen? ⟨G.ptr i, 1, none⟩ = false := fun q v => by
          rw [World.frozen?_of_block (w := w) (hblk1 q v)]; exact HFI.out.fro 1
        have hA0 : decide ((A : Int) < 0) = false := decide_eq_false (by omega)
        have hx : bits BinOp.xor IntKind.u8 (b0 : Int) (m : Int) = ((b0 ^^^ m : Nat) : Int) := u8_xor_nat _ _ hb0l hm
        have HX := Lib.hid hx
        have HB0 := Lib.hid hb0
        clear hx hblk1 hb0
        go_enter Tryz.func107, Tryz.ntmps107
        go_wp2_with (go_at_call 67; refine ho.mono ?_; rintro r w2 ⟨rfl, q, rfl⟩)
        go_ret
        rw [HX.out]
        obtain ⟨W, hW⟩ : ∃ W, W = w.drewN q := ⟨_, rfl⟩
        rw [← hW]
        have hD : DiskAt W D G := by rw [hW]; exact HD.out.below ((Below.refl _ _).drewN q)
        have hF : FileAt W (G.ptr i) (.slice (some ⟨g, 0, none⟩) L bc) (G.svs i) bs := by
          have := HFI.out; rw [HBV.out] at this
          rw [hW]
          exact this.turn (Turn.of_drew (S := fun _ => False) q) (fun _ _ h => h)
        have hFr : W.ownsRow 0 5 1 (.slice (some ⟨g, 0, none⟩) L bc) L (u8s bs.bytes) := by have := hF.bytes; rw [HL.out] at this; exact this
        have hF2 : FileAt (W.setCell ⟨g, A, none⟩ (.int .u8 ((b0 ^^^ m : Nat) : Int))) (G.ptr i) (.slice (some ⟨g, 0, none⟩) L bc) (G.svs i) ⟨bs.bytes.set A (b0 ^^^ m), bs.steps⟩ := by
          refine ⟨(Below.heap_setCell _ _ _ _ hg1).trans hF.cells, ?_, ?_⟩
          · simp only [List.length_set, HL.out]
            exact row_set hFr A _
          · refine row_of_block hF.steps fun k hk => Below.heap_setCell _ _ _ _ (fun e => ?_)
            subst e
            exact hF.apart.2.2 _ rfl hk
        have hF3 := hF2.noSteps
        have ht : Turn (fileOwn (G.ptr i) (G.bvs i) (G.svs i)) W ((W.setCell ⟨g, A, none⟩ (.int .u8 ((b0 ^^^ m : Nat) : Int))).setCell ⟨G.ptr i, 1, none⟩ (.slice none 0 0)) :=
          ((Turn.refl _ W).set _ _ (fun _ => .inr (.inl (by rw [HBV.out]; rfl)))).set _ _ (fun _ => .inl rfl)
        rw [← HBV.out] at hF3
        have e0 : flipped (pfAt G i).bytes A m = bs.bytes.set A (b0 ^^^ m) := by unfold flipped; rw [HBS.out, HB0.out]
        have hb : locOk W (G.bvs i) (G.bvs i) := .inl rfl
        have hs : locOk W (G.svs i) (.slice none 0 0) := .inr (.inl rfl)
        refine ⟨rfl, _, hD.filed Hi.out hF3 ht hb hs, ?_, .inr ⟨rfl, i, Hfo.out, ?_⟩, fun k hk => ?_⟩
        · rw [hW] at ht ⊢
          exact (Turn.of_drew q).trans ht (fun k _ hh => .inr (.inr (.inr (.inr (.inr ⟨i, Hi.out, hh⟩)))))
        · rw [Int.toNat_natCast, e0]
        · rcases own_file Hi.out hb hs hk with h1 | h1
          · exact .inl h1
          · rw [hW] at h1; exact .inr h1
  · have hc0 : flipCode G p a = openCode G p := by unfold flipCode; rw [if_pos hz]
    rw [hc0]
    rw [open_none hz] at ho
    obtain ⟨c, hc⟩ : ∃ c, openCode G p = c + 1 := ⟨openCode G p - 1, by omega⟩
    rw [hc] at ho ⊢
    have HD := Lib.hid h
    unfold errV at ho ⊢
    clear h he hn hp hc hz hc0 hfs h8
    go_enter Tryz.func107, Tryz.ntmps107
    go_wp2_with (go_at_call 67; refine ho.mono ?_; rintro r w2 ⟨rfl, n, rfl⟩)
    go_ret
    exact ⟨rfl, G, HD.out.below ((Below.refl _ _).drewN n), Turn.of_drew n, .inl ⟨by omega, rfl⟩, fun k hk => .inl hk⟩

theorem Flip_any {w : World} {D : Nat} {G : DiskG} {E : Nat → Addr} (h : DiskAt w D G) (he : Env w E) (hn : NumsOk G) (p : ByteArray) (hp : p.size < 4294967281) (a : Int) (m : Nat) (hm : m < 256)
    (hfs : ∀ i, i < G.pfs.length → (pfAt G i).bytes.length < 549755813888) (h8 : ∀ i, i < G.pfs.length → ∀ x ∈ (pfAt G i).bytes, x < 256) :
    Calls Tryz.prog 79 #[.pointer (some ⟨D, 0, none⟩), .string p, .int .i64 a, .int .u8 (m : Int)] w fun r w' =>
      ∃ v G', r = .returned v ∧ ErrAt w' E v (flipCode G p a) "flip".toUTF8 p ∧ DiskAt w' D G' ∧ Turn (G.own D) w w' ∧ FlipDone G p a m (flipCode G p a) G' ∧ (∀ k, G'.own D k → G.own D k ∨ w.heap.size ≤ k) := by
  have h1 := flip_any h he hn p hp a m hm hfs h8
  have h2 := fun W => refused_err ⟨#[102, 108, 105, 112]⟩ p E (flipCode G p a) W
  have H1 := Lib.hid h1
  have H2 := Lib.hid h2
  clear h he hn hp h1 h2 hm hfs h8
  go_enter Tryz.func79, Tryz.ntmps79
  go_wp2_with (first
    | (go_at_call 107; ((with_reducible refine H1.out.mono ?_); rintro r w2 ⟨rfl, G', hd, ht, hcr, hnew⟩))
    | (go_at_call 55; ((with_reducible refine (H2.out _).mono ?_); rintro r w3 ⟨v, rfl, hv, hb⟩)))
  go_ret
  exact ⟨_, G', rfl, hv, hd.below hb, ht.trans (Turn.of_below hb : Turn (fun _ => False) _ _) (fun _ _ h => h.elim), hcr, hnew⟩

end Go.Proofs.YtmmlefbokplnnaaGreatDoor.Disk
