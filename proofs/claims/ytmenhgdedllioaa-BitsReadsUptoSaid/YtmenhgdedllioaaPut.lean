/-
  A writer of bits: the contract of Put. Own text.
-/
import Derived.Test.YtmenhgdedllioaaRead
import Derived.Maps.AppendAt
import Derived.StillTailTactics
namespace Go.Proofs.Ytmenhgdedllioaa.Bits
open Go.RowKit Go

/-- What a Put leaves: only the writer's block p, the row of its bytes, and new blocks may have turned; the bytes' row is the old one or a new one. -/
structure Tch (w w' : World) (p : Nat) (v v' : Value) : Prop where
  os : w'.os = w.os
  tape : w'.tape = w.tape
  output : w'.output = w.output
  size : w.heap.size ≤ w'.heap.size
  block : ∀ k, k < w.heap.size → k ≠ p → v.ownBlock ≠ some k → w'.heap[k]? = w.heap[k]?
  row : v'.ownBlock = v.ownBlock ∨ ∀ k, v'.ownBlock = some k → w.heap.size ≤ k

theorem Tch.refl (w : World) (p : Nat) (v : Value) : Tch w w p v v := ⟨rfl, rfl, rfl, Nat.le_refl _, fun _ _ _ _ => rfl, .inl rfl⟩

theorem Tch.trans {a b c : World} {p : Nat} {u v x : Value} (h : Tch a b p u v) (k : Tch b c p v x) : Tch a c p u x :=
  ⟨k.os.trans h.os, k.tape.trans h.tape, k.output.trans h.output, Nat.le_trans h.size k.size,
   fun i hi hp hu => (k.block i (Nat.lt_of_lt_of_le hi h.size) hp (by
     rcases h.row with e | e
     · rw [e]; exact hu
     · intro hv; have := e i hv; omega)).trans (h.block i hi hp hu),
   by
     rcases k.row with e | e
     · rcases h.row with e' | e'
       · exact .inl (e.trans e')
       · exact .inr (fun i hi => e' i (by rw [← e]; exact hi))
     · exact .inr (fun i hi => Nat.le_trans h.size (e i hi))⟩

theorem Tch.setCell {a w : World} {p : Nat} {u v : Value} (h : Tch a w p u v) (o : Nat) (x : Value) : Tch a (w.setCell ⟨p, o, none⟩ x) p u v :=
  ⟨h.os, h.tape, h.output, by simpa [World.setCell] using h.size, fun i hi hp hu => (Below.heap_setCell w ⟨p, o, none⟩ x i hp).trans (h.block i hi hp hu), h.row⟩

theorem Tch.setRow {a w : World} {p g o n cap : Nat} {u : Value} (h : Tch a w p u (.slice (some ⟨g, 0, none⟩) n cap)) (x : Value) : Tch a (w.setCell ⟨g, o, none⟩ x) p u (.slice (some ⟨g, 0, none⟩) n cap) :=
  ⟨h.os, h.tape, h.output, by simpa [World.setCell] using h.size, fun i hi hp hu => (Below.heap_setCell w ⟨g, o, none⟩ x i (by
    rintro rfl
    rcases h.row with e | e
    · exact hu (by rw [← e]; rfl)
    · have := e _ rfl; simp at this; omega)).trans (h.block i hi hp hu), h.row⟩

theorem Tch.drewN {a w : World} {p : Nat} {u v : Value} (h : Tch a w p u v) (n : Nat) : Tch a (w.drewN n) p u v := ⟨h.os, h.tape, h.output, h.size, h.block, h.row⟩

theorem Tch.alloc {a w : World} {p : Nat} {u v : Value} (h : Tch a w p u v) (o : Obj) : Tch a (w.alloc o) p u v :=
  ⟨h.os, h.tape, h.output, Nat.le_trans h.size (by simp), fun i hi hp hu => (Below.heap_alloc w o i (Nat.lt_of_lt_of_le hi h.size)).trans (h.block i hi hp hu), h.row⟩

/-- behind an append to the row -/
theorem Tch.grown {a w w' : World} {p : Nat} {u v v' : Value} (h : Tch a w p u v) (hg : w.grownBy w' v.ownBlock) (hr : v'.ownBlock = v.ownBlock ∨ v'.ownBlock = some w.heap.size) : Tch a w' p u v' :=
  h.trans ⟨hg.os, hg.tape, hg.output, hg.size, fun i hi _ hu => hg.block i hi (fun e => hu e.symm), by
    rcases hr with e | e
    · exact .inl e
    · exact .inr (fun k hk => by rw [e] at hk; injection hk with hk; omega)⟩

/-- The writer with room for the next bit. -/
structure Mid (w : World) (B p g cap : Nat) (N c : Nat) : Prop where
  blk : w.heap[p]? = some (.cells #[.slice (some ⟨g, 0, none⟩) (c / 8 + 1) cap, .int .i64 (c : Int)] 26 (0, 0))
  own : w.ownsRow B 5 1 (.slice (some ⟨g, 0, none⟩) (c / 8 + 1) cap) (c / 8 + 1) (u8s (Num.padB N c))

theorem Mid.c0 {w : World} {B p g cap N c : Nat} (h : Mid w B p g cap N c) : w.cell? ⟨p, 0, none⟩ = some (.slice (some ⟨g, 0, none⟩) (c / 8 + 1) cap) := by simp [World.cell?, h.blk]
theorem Mid.c1 {w : World} {B p g cap N c : Nat} (h : Mid w B p g cap N c) : w.cell? ⟨p, 1, none⟩ = some (.int .i64 (c : Int)) := by simp [World.cell?, h.blk]
theorem Mid.f1 {w : World} {B p g cap N c : Nat} (h : Mid w B p g cap N c) : w.frozen? ⟨p, 1, none⟩ = false := by simp [World.frozen?, h.blk]
theorem Mid.last {w : World} {B p g cap N c : Nat} (h : Mid w B p g cap N c) : w.cell? ⟨g, c / 8, none⟩ = some (.int .u8 (Num.lastB N c : Int)) := by
  rw [h.own.cellAt (c / 8) (by omega)]
  unfold u8s
  rw [List.getElem?_map, Num.padB_get]
  rfl
theorem Mid.freeLast {w : World} {B p g cap N c : Nat} (h : Mid w B p g cap N c) : w.frozen? ⟨g, c / 8, none⟩ = false := h.own.frozenAt _

theorem Try.info5 : (Try.prog.info? 5).map (fun i => (i.zero, i.size, i.bytes)) = some (some (.int .u8 0), 1, 1) := by kernel_rfl

theorem u8s_append (l m : List Nat) : u8s (l ++ m) = u8s l ++ u8s m := by simp [u8s]
theorem u8s_length (l : List Nat) : (u8s l).length = l.length := by simp [u8s]

/-- a row of bytes never lies in a block of another element type -/
theorem own_ne {w : World} {B n p : Nat} {v : Value} {xs : List Value} {cs : Array Value} {t e : TypeId} (h : w.ownsRow B e 1 v n xs) (hp : w.heap[p]? = some (.cells cs t (0, 0))) (hne : e ≠ t := by decide) : v.ownBlock ≠ some p := by
  rcases h.2 with ⟨rfl, _⟩ | ⟨g, cap, cur, rfl, _, hh, _⟩
  · simp [Value.ownBlock]
  · intro he
    have : g = p := by simpa [Value.ownBlock] using he
    subst this
    rw [hh] at hp
    injection hp with hp
    injection hp with _ ht
    exact hne ht

theorem blk_set0 {w : World} {p : Nat} {u c : Value} {t : TypeId} (h : w.heap[p]? = some (.cells #[u, c] t (0, 0))) (x : Value) : (w.setCell ⟨p, 0, none⟩ x).heap[p]? = some (.cells #[x, c] t (0, 0)) := by
  simp [World.setCell, Array.getElem?_modify, h]
theorem blk_set1 {w : World} {p : Nat} {u c : Value} {t : TypeId} (h : w.heap[p]? = some (.cells #[u, c] t (0, 0))) (x : Value) : (w.setCell ⟨p, 1, none⟩ x).heap[p]? = some (.cells #[u, x] t (0, 0)) := by
  simp [World.setCell, Array.getElem?_modify, h]

theorem own_setCell {w : World} {B n p o : Nat} {v : Value} {xs : List Value} {cs : Array Value} {t e : TypeId} (h : w.ownsRow B e 1 v n xs) (hp : w.heap[p]? = some (.cells cs t (0, 0))) (x : Value) (hne : e ≠ t := by decide) :
    (w.setCell ⟨p, o, none⟩ x).ownsRow B e 1 v n xs := ownsRow_setCell_other (a := ⟨p, o, none⟩) h (own_ne h hp hne) x

theorem mid_of_part {w wr : World} {B p M C : Nat} {u v : Value} (hr : Wr wr B p u M C) (hT : Tch w wr p v u) (h8 : ¬ C % 8 = 0) :
    ∃ g cap, Mid wr B p g cap M C ∧ Tch w wr p v (.slice (some ⟨g, 0, none⟩) (C / 8 + 1) cap) := by
  have hnb : Num.nb C = C / 8 + 1 := by unfold Num.nb; omega
  have ho := hr.own
  have hb := hr.blk
  rw [hnb, ← Num.padB_part M C h8] at ho
  rcases ho.2 with ⟨_, h⟩ | ⟨g, cap, _, h, _⟩
  · omega
  · subst h
    exact ⟨g, cap, ⟨hb, ho⟩, hT⟩

theorem or_step (L Y e m : Nat) (hL : L < 256) (hY : Y < 2 ^ m) (he : m + e ≤ 8) :
    bits BinOp.or IntKind.u8 (L : Int) (IntKind.u64.wrap ((Y : Int) * 2 ^ e) % 256) = ((L ||| Y * 2 ^ e : Nat) : Int) := by
  have h1 : Y * 2 ^ e < 2 ^ m * 2 ^ e := (Nat.mul_lt_mul_right (Num.two_pos e)).2 hY
  rw [← Nat.pow_add] at h1
  have h2 : (2 : Nat) ^ (m + e) ≤ 2 ^ 8 := Nat.pow_le_pow_right (by decide) he
  have h3 : ((Y : Int) * 2 ^ e) = ((Y * 2 ^ e : Nat) : Int) := by simp
  have h4 : IntKind.u64.wrap ((Y : Int) * 2 ^ e) % 256 = ((Y * 2 ^ e : Nat) : Int) := by
    rw [h3, IntKind.wrap_u64]
    omega
  rw [h4, u8_or_nat _ _ hL (by omega)]

theorem u8s_set (l : List Nat) (i y : Nat) : (u8s l).set i (.int .u8 (y : Int)) = u8s (l.set i y) := by simp [u8s, List.map_set]

theorem Mid.stored {w : World} {B p g cap N c m : Nat} (h : Mid w B p g cap N c) (s : Nat) (hm : 1 ≤ m) (hu : c % 8 + m ≤ 8) (hs : s < 2 ^ m) :
    (w.setCell ⟨g, c / 8, none⟩ (.int .u8 ((Num.lastB N c ||| s * 2 ^ (8 - c % 8 - m) : Nat) : Int))).heap[p]? = some (.cells #[.slice (some ⟨g, 0, none⟩) (c / 8 + 1) cap, .int .i64 (c : Int)] 26 (0, 0)) ∧
    (w.setCell ⟨g, c / 8, none⟩ (.int .u8 ((Num.lastB N c ||| s * 2 ^ (8 - c % 8 - m) : Nat) : Int))).ownsRow B 5 1 (.slice (some ⟨g, 0, none⟩) (c / 8 + 1) cap) (c / 8 + 1) (u8s (Num.packB (N * 2 ^ m + s) (c + m))) := by
  refine ⟨?_, ?_⟩
  · rw [Below.heap_setCell _ _ _ _ (by
      intro e
      exact own_ne h.own h.blk (hne := by decide) (by rw [Value.ownBlock, e]))]
    exact h.blk
  · rw [Num.packB_step N c m s hm hu hs, ← u8s_set]
    exact (h.own.stored (c / 8) _).1

theorem put_any {B p N c : Nat} {v : Value} (x : Nat) (n : Int) (w : World) (h : Wr w B p v N c) (hx : x < 18446744073709551616) (hc : c ≤ 562949953421312) (hB : B ≤ w.heap.size) :
    Calls Try.prog 8 #[.pointer (some ⟨p, 0, none⟩), .int .u64 (x : Int), .int .i64 n] w fun e w' => e = .returned (.tuple #[]) ∧ ∃ v', Wr w' B p v' (Num.putN N x (wide n)) (c + wide n) ∧ Tch w w' p v v' := by
  obtain ⟨i0, hi, hz0, hz1, hz2⟩ := info_parts Try.info5
  have hw := wide_le n
  go_enter Try.func8, Try.ntmps8
  go_wp2_with (first | (go_at_call 20; refine (bounded_any _ _).mono ?_; rintro e w' ⟨rfl, rfl⟩))
  go_loopg [6] (wide n) (fun L l wr => ∃ (C : Nat) (u : Value), Hid (C + L = c + wide n) ∧ c ≤ C ∧ C + L ≤ c + 64 ∧ l = .int .i64 (L : Int) ∧ Wr wr B p u (Num.putN N (x / 2 ^ L) (C - c)) C ∧ Tch w wr p v u)
  case atStart => exact ⟨c, v, rfl, Nat.le_refl _, by omega, rfl, by rw [Nat.sub_self, Num.putN_zero]; exact h, Tch.refl _ _ _⟩
  case round =>
    obtain ⟨C, u, hE, hC1, hC2, rfl, hr, hT⟩ := hrel
    obtain ⟨M, hM⟩ : ∃ M : Nat, M = Num.putN N (x / 2 ^ gk) (C - c) := ⟨_, rfl⟩
    rw [← hM] at hr
    have HM : Hid (M = Num.putN N (x / 2 ^ gk) (C - c)) := hM
    clear hM
    have g0 := hr.c0
    have g1 := hr.c1
    have f0 := hr.f0
    have f1 := hr.f1
    clear hw
    by_cases hlt : 0 < gk
    · go_upto_if 21 with (fail)
      go_cut [] (fun wx => ∃ g cap, Mid wx B p g cap M C ∧ Tch w wx p v (.slice (some ⟨g, 0, none⟩) (C / 8 + 1) cap))
      case first =>
        by_cases h8 : C % 8 = 0
        · go_wp2_with (at_builtin; refine wpList_append_own_at _ rfl (.tmp 26) (.tmp 27) 24 rfl B 5 i0 (.int .u8 0) 1 1 Try.underlying24 hi hz0 hz1 hz2 rfl (by decide) _ _ _ rfl (hr.own.alloc _) ⟨wr.heap.size, 0, none⟩ 1 1 [.int .u8 0] rfl rfl (cell_one_new _ _ _) (by intro u hu; simp at hu; subst hu; rfl) ?c3 ?c4 ?c5 ?_)
          case c3 => unfold maxLen Num.nb; omega
          case c4 => unfold Num.nb; omega
          case c5 => have := hT.size; simp; omega
          intro v' w1 hown' hgrow _ hat
          have hnb : Num.nb C = C / 8 := by unfold Num.nb; omega
          obtain ⟨g, cap, rfl⟩ : ∃ g cap, v' = .slice (some ⟨g, 0, none⟩) (C / 8 + 1) cap := by
            rcases hown'.2 with ⟨_, h⟩ | ⟨g, cap, _, h, _⟩
            · omega
            · exact ⟨g, cap, by rw [h, hnb]⟩
          have hpn := hr.lt
          have hne : u.ownBlock ≠ some p := own_ne hr.own hr.blk
          have hpb : w1.heap[p]? = some (.cells #[u, .int .i64 (C : Int)] 26 (0, 0)) := by
            rw [hgrow.block p (by simp; omega) (fun e => hne e.symm), Below.heap_alloc _ _ _ hpn]
            exact hr.blk
          have k0 : w1.cell? ⟨p, 0, none⟩ = some u := by simp [World.cell?, hpb]
          have k1 : w1.frozen? ⟨p, 0, none⟩ = false := by simp [World.frozen?, hpb]
          have hT1 : Tch w w1 p v (.slice (some ⟨g, 0, none⟩) (C / 8 + 1) cap) := (hT.alloc _).grown hgrow (by simpa using hat)
          rw [hnb] at hown'
          have hown2 : w1.ownsRow B 5 1 (.slice (some ⟨g, 0, none⟩) (C / 8 + 1) cap) (C / 8 + 1) (u8s (Num.padB M C)) := by
            rw [Num.padB_full M C h8, u8s_append]
            exact hown'
          clear hown' hgrow hat g0 f0 g1 f1 hnb
          go_wp2
          go_meet
          exact ⟨g, cap, ⟨blk_set0 hpb _, own_setCell hown2 hpb _⟩, hT1.setCell 0 _⟩
        · go_wp2
          go_meet
          refine mid_of_part hr hT h8
      case rest =>
        obtain ⟨g, cap, hm, hT2⟩ := hcut
        clear g0 g1 f0 f1 hT hr
        have g0 := hm.c0
        have g1 := hm.c1
        have f1 := hm.f1
        have gl := hm.last
        have fl := hm.freeLast
        go_upto_region 6 with (fail)
        go_cut [8] (fun z wx => ∃ m : Nat, z = .int .i64 (m : Int) ∧ 1 ≤ m ∧ m ≤ gk ∧ C % 8 + m ≤ 8 ∧ wx = wc)
        case first =>
          go_wp2
          · go_meet
            exact ⟨gk, rfl, by omega, by omega, by omega, rfl⟩
          · go_meet
            exact ⟨8 - C % 8, by go_num, by omega, by omega, by omega, rfl⟩
        case rest =>
          obtain ⟨m, rfl, hm1, hm2, hm3, rfl⟩ := hcut
          go_upto_region 8 with (fail)
          go_cut [] (fun wx => wx.heap[p]? = some (.cells #[.slice (some ⟨g, 0, none⟩) (C / 8 + 1) cap, .int .i64 (C : Int)] 26 (0, 0)) ∧
            wx.ownsRow B 5 1 (.slice (some ⟨g, 0, none⟩) (C / 8 + 1) cap) (C / 8 + 1) (u8s (Num.packB (M * 2 ^ m + x / 2 ^ (gk - m) % 2 ^ m) (C + m))) ∧ Tch w wx p v (.slice (some ⟨g, 0, none⟩) (C / 8 + 1) cap))
          case first =>
            have e0 : (0 : Int) ≤ (gk : Int) - (m : Int) := by omega
            have e3 : ((gk : Int) - (m : Int)).toNat = gk - m := by omega
            have d1 : IntKind.i64.wrap ((C : Int) / 8) = (C : Int) / 8 := IntWalk.i64_in _ (by omega)
            have d2 : (0 : Int) ≤ (C : Int) / 8 := by omega
            have d3 : ((C : Int) / 8).toNat = C / 8 := by omega
            have d7 : (C : Int) / 8 < (C : Int) / 8 + 1 := by omega
            have hlow : ∀ W : World, Calls Try.prog 21 #[.int .u64 ((x : Int) / 2 ^ (gk - m)), .int .i64 (m : Int)] W fun e w' => e = .returned (.int .u64 ((x / 2 ^ (gk - m) % 2 ^ m : Nat) : Int)) ∧ w' = W := by
              intro W
              have h1 : ((x : Int) / 2 ^ (gk - m)) = ((x / 2 ^ (gk - m) : Nat) : Int) := by simp
              rw [h1]
              exact (lowest_any (x / 2 ^ (gk - m)) m (Nat.lt_of_le_of_lt (Nat.div_le_self _ _) hx) (by omega) W).mono fun _ _ ⟨a, b⟩ => ⟨a, b.symm⟩
            have Hlow : Hid _ := hlow
            clear hlow
            have d4 : IntKind.i64.wrap (8 - (C : Int) % 8) = 8 - (C : Int) % 8 := IntWalk.i64_in _ (by omega)
            have d5 : IntKind.i64.wrap (8 - (C : Int) % 8 - (m : Int)) = 8 - (C : Int) % 8 - (m : Int) := IntWalk.i64_in _ (by omega)
            have d6 : (0 : Int) ≤ 8 - (C : Int) % 8 - (m : Int) := by omega
            refine wp_region_still_tail 25 (by kernel_rfl) (by kernel_rfl) ?_
            simp only [List.take_succ_cons, List.take_zero, List.drop_succ_cons, List.drop_zero]
            change wpStill _ _ wc.drew _ _ _
            repeat still_step
            refine wpStill_step (fun K hK => ?_)
            go_simp
            refine ⟨_, Hlow.out _, hK _ ?_⟩
            clear hK K
            repeat still_step
            refine wpStill_nil ?_
            go_wp2
            go_meet
            have hS := hm.stored (x / 2 ^ (gk - m) % 2 ^ m) hm1 hm3 (Nat.mod_lt _ (Num.two_pos _))
            have hO := or_step (Num.lastB M C) (x / 2 ^ (gk - m) % 2 ^ m) (8 - C % 8 - m) m (Num.lastB_lt _ _) (Nat.mod_lt _ (Num.two_pos _)) (by omega)
            simp only [Int.natCast_emod, Int.natCast_ediv, Int.natCast_pow, Int.cast_ofNat_Int] at hO
            rw [hO]
            exact ⟨hS.1, hS.2, (hT2.setRow _).drewN 1⟩
          case rest =>
            obtain ⟨hb, hown, hT3⟩ := hcut
            clear g0 g1 f1 gl fl hm hT2
            have k0 : wc.cell? ⟨p, 0, none⟩ = some (.slice (some ⟨g, 0, none⟩) (C / 8 + 1) cap) := by simp [World.cell?, hb]
            have k1 : wc.cell? ⟨p, 1, none⟩ = some (.int .i64 (C : Int)) := by simp [World.cell?, hb]
            have k2 : wc.frozen? ⟨p, 1, none⟩ = false := by simp [World.frozen?, hb]
            have HB := hb
            clear hb
            go_wp2
            go_roundg (gk - m)
            case measure => omega
            case rel =>
              have hnb : Num.nb (C + m) = C / 8 + 1 := by unfold Num.nb; omega
              have hput : Num.putN N (x / 2 ^ (gk - m)) (C + m - c) = M * 2 ^ m + x / 2 ^ (gk - m) % 2 ^ m := by
                have := Num.putN_split N (x / 2 ^ (gk - m)) (C - c) m
                rw [show C + m - c = C - c + m from by omega, ← this, HM.out, Nat.div_div_eq_div_mul, ← Nat.pow_add, show gk - m + m = gk from by omega]
                rfl
              refine ⟨C + m, .slice (some ⟨g, 0, none⟩) (C / 8 + 1) cap, by have := hE.out; show _ = _; omega, by omega, by omega, by go_num, ?_, hT3.setCell 1 _⟩
              rw [hput]
              refine ⟨?_, ?_⟩
              · rw [Int.natCast_add]
                exact blk_set1 HB _
              · rw [hnb]
                exact own_setCell hown HB _
    · go_wp2
      refine bodyPost_end (results_none rfl _ _ _) rfl ?_
      have hk : gk = 0 := by omega
      subst hk
      have hk : C = c + wide n := by have := hE.out; omega
      subst hk
      refine ⟨rfl, u, ?_, hT⟩
      rw [HM.out, show c + wide n - c = wide n from by omega, Nat.pow_zero, Nat.div_one] at hr
      exact hr
end Go.Proofs.Ytmenhgdedllioaa.Bits
