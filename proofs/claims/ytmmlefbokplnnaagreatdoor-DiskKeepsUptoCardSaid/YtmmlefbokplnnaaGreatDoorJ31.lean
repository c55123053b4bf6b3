/-
  The texts RCreate2, RCalls3, RFlip, joined. Own text.
-/
import Derived.Test.YtmmlefbokplnnaaGreatDoorJ30
import Derived.Test.YtmmlefbokplnnaaGreatDoorJ26
import Derived.Test.YtmmlefbokplnnaaGreatDoorJ29
import Derived.BigRegion
set_option linter.unusedVariables false
set_option linter.unusedSimpArgs false
namespace Go.Proofs.YtmmlefbokplnnaaGreatDoor.Disk
open Go.RowKit Go Go.Proofs.YtmmlefbokplnnaaGreatDoor.Base Go.Proofs.YtmmlefbokplnnaaGreatDoor.Map

section
variable {w : World} {R : Nat} {q : RefG} {m : M}

set_option maxRecDepth 100000 in
set_option maxHeartbeats 2000000 in
theorem Create_ref (h : RefAt w R q m) (hm : Lim m) (p : ByteArray) (hp : p.size < 4611686018427387904) :
    Calls Tryz.prog 28 #[.pointer (some ⟨R, 0, none⟩), .string p] w fun r w' => r = .returned (.int .i64 ((m.create p).1 : Int)) ∧ ∃ q', RefDone w R q w' q' (m.create p).2 := by
  have l1 := refIsPath p hp w
  have l2 := parent_ref h (by have := hm.things; omega) p hp
  have l3 := is_ref h (by have := hm.things; omega) p
  have l4 : Calls Tryz.prog 69 #[.pointer (some ⟨R, 0, none⟩), .agg #[.int .i64 2, .string p, .string ⟨#[]⟩, .int .i64 (m.files.length : Int)]] w _ := names_ref h hm.await hm.things hm.steps hm.paths ⟨2, p, ByteArray.empty, m.files.length⟩ (.inr (.inl rfl)) hp (by show ByteArray.empty.size < _; decide)
  have c5 : w.cell? ⟨R, 5, none⟩ = some (.bool m.off) := h.cell 5
  have hzl : (m.files.zip q.cs).length = m.files.length := by rw [List.length_zip, h.len, Nat.min_self]
  obtain ⟨fa0, fc0, hv0, _⟩ := row_open (f := fbC) (k := 3) (fun _ => rfl) h.files hzl
  have c3 : w.cell? ⟨R, 3, none⟩ = some (.slice fa0 m.files.length fc0) := by rw [← hv0]; exact h.cell 3
  have hsame := RefDone.same h (Below.refl _ _)
  have HS := Lib.hid hsame
  have hfl := hm.files
  have hfin : ∀ w2 q1, RefDone w R q w2 q1 (m.names ⟨2, p, ByteArray.empty, m.files.length⟩).2 ∧ q1.fv = q.fv ∧ q1.cs = q.cs → _ := fun w2 q1 hh => create_fin (m := m) hh.1 hh.2.1 hh.2.2 (by unfold M.names; split <;> exact M.ticked_files m) hfl
  have HF := Lib.hid hfin
  unfold M.create
  clear h hm hsame hv0 hzl hfin
  obtain ⟨of, hof⟩ : ∃ of, m.off = of := ⟨_, rfl⟩
  obtain ⟨ip, hip⟩ : ∃ ip, isPath p = ip := ⟨_, rfl⟩
  obtain ⟨th, hth⟩ : ∃ th, parent m.things p = th := ⟨_, rfl⟩
  obtain ⟨o, ho⟩ : ∃ o, isAt m.things p = o := ⟨_, rfl⟩
  rw [hof] at c5 ⊢
  rw [hip] at l1 ⊢
  rw [hth] at l2 ⊢
  rw [ho] at l3 ⊢
  have L1 := Lib.hid l1
  have L2 := Lib.hid l2
  have L3 := Lib.hid l3
  have L4 := Lib.hid l4
  clear l1 l2 l3 l4 hof hip hth ho
  cases of
  · rw [if_neg (by decide)]
    cases ip
    · rw [if_pos rfl]
      go_enter Tryz.func28, Tryz.ntmps28
      go_wp2_with (first
        | (go_at_call 70; ((with_reducible refine L1.out.mono ?_); rintro r w2 ⟨rfl, rfl⟩))
        | (go_at_call 71; ((with_reducible refine L2.out.mono ?_); rintro r w2 ⟨rfl, rfl⟩))
        | (go_at_call 60; ((with_reducible refine L3.out.mono ?_); rintro r w2 ⟨rfl, rfl⟩)))
      go_ret
      exact ⟨rfl, q, HS.out⟩
    · rw [if_neg (by decide)]
      cases th
      · rw [if_pos rfl]
        go_enter Tryz.func28, Tryz.ntmps28
        go_wp2_with (first
          | (go_at_call 70; ((with_reducible refine L1.out.mono ?_); rintro r w2 ⟨rfl, rfl⟩))
          | (go_at_call 71; ((with_reducible refine L2.out.mono ?_); rintro r w2 ⟨rfl, rfl⟩))
          | (go_at_call 60; ((with_reducible refine L3.out.mono ?_); rintro r w2 ⟨rfl, rfl⟩)))
        go_ret
        exact ⟨rfl, q, HS.out⟩
      · rw [if_neg (by decide)]
        by_cases hx : o = 0
        · subst hx
          rw [if_neg (by decide)]
          by_cases h1 : m.await = 1
          · have e1 : tickV m = 1 := by unfold tickV; rw [if_pos h1]
            rw [e1] at L4
            rw [if_pos h1]
            have hnm : (m.names ⟨2, p, ByteArray.empty, m.files.length⟩).2 = m.ticked := by unfold M.names; rw [if_pos h1]
            have HNM := Lib.hid hnm
            clear h1 e1 hnm
            go_enter Tryz.func28, Tryz.ntmps28
            go_wp2_with (first
              | (go_at_call 70; ((with_reducible refine L1.out.mono ?_); rintro r w2 ⟨rfl, rfl⟩))
              | (go_at_call 71; ((with_reducible refine L2.out.mono ?_); rintro r w2 ⟨rfl, rfl⟩))
              | (go_at_call 60; ((with_reducible refine L3.out.mono ?_); rintro r w2 ⟨rfl, rfl⟩))
              | (go_at_call 69; ((with_reducible refine L4.out.mono ?_); rintro r w2 ⟨rfl, q', hq'⟩)))
            go_ret
            exact ⟨rfl, q', by rw [← HNM.out]; exact hq'.1⟩
          · have e1 : tickV m = 0 := by unfold tickV; rw [if_neg h1]
            rw [e1] at L4
            rw [if_neg h1]
            clear h1 e1
            go_enter Tryz.func28, Tryz.ntmps28
            go_wp2_with (first
              | (go_at_call 70; ((with_reducible refine L1.out.mono ?_); rintro r w2 ⟨rfl, rfl⟩))
              | (go_at_call 71; ((with_reducible refine L2.out.mono ?_); rintro r w2 ⟨rfl, rfl⟩))
              | (go_at_call 60; ((with_reducible refine L3.out.mono ?_); rintro r w2 ⟨rfl, rfl⟩))
              | (go_at_call 69; ((with_reducible refine L4.out.mono ?_); rintro r w2 ⟨rfl, q', hq'⟩; obtain ⟨fa, fc, a4, c4, w4, k0, hrun, ⟨u, k4⟩, f4, hd⟩ := HF.out w2 q' hq'; have HRun := Lib.hid hrun; clear hrun))
              | (at_builtin; refine Row.append_by rfl (.tmp 42) (.tmp 44) _ rfl _ _ rfl rfl HRun.out ?_))
            go_ret
            exact ⟨rfl, _, hd⟩
        · rw [if_pos hx]
          have hx' : ¬ ((o : Nat) : Int) = 0 := by omega
          clear hx
          go_enter Tryz.func28, Tryz.ntmps28
          go_wp2_with (first
            | (go_at_call 70; ((with_reducible refine L1.out.mono ?_); rintro r w2 ⟨rfl, rfl⟩))
            | (go_at_call 71; ((with_reducible refine L2.out.mono ?_); rintro r w2 ⟨rfl, rfl⟩))
            | (go_at_call 60; ((with_reducible refine L3.out.mono ?_); rintro r w2 ⟨rfl, rfl⟩)))
          go_ret
          exact ⟨rfl, q, HS.out⟩
  · rw [if_pos rfl]
    go_enter Tryz.func28, Tryz.ntmps28
    go_wp2_with (first
      | (go_at_call 70; ((with_reducible refine L1.out.mono ?_); rintro r w2 ⟨rfl, rfl⟩))
      | (go_at_call 71; ((with_reducible refine L2.out.mono ?_); rintro r w2 ⟨rfl, rfl⟩))
      | (go_at_call 60; ((with_reducible refine L3.out.mono ?_); rintro r w2 ⟨rfl, rfl⟩)))
    go_ret
    exact ⟨rfl, q, HS.out⟩

end
end Go.Proofs.YtmmlefbokplnnaaGreatDoor.Disk

namespace Go.Proofs.YtmmlefbokplnnaaGreatDoor.Disk
open Go.RowKit Go Go.Proofs.YtmmlefbokplnnaaGreatDoor.Base Go.Proofs.YtmmlefbokplnnaaGreatDoor.Map

theorem isAt_le (l : List Thing) (p : ByteArray) : isAt l p = 0 ∨ isAt l p = 1 ∨ isAt l p = 2 := by
  unfold isAt
  cases find l p with
  | none => exact .inl rfl
  | some x => cases x.dir <;> simp

section
variable {w : World} {R : Nat} {q : RefG} {m : M}

set_option maxRecDepth 100000 in
set_option maxHeartbeats 4000000 in
theorem Rename_ref (h : RefAt w R q m) (hm : Lim m) (a b : ByteArray) (ha : a.size < 4611686018427387904) (hb : b.size < 4611686018427387904) :
    Calls Tryz.prog 36 #[.pointer (some ⟨R, 0, none⟩), .string a, .string b] w fun r w' => r = .returned (.int .i64 ((m.rename a b).1 : Int)) ∧ ∃ q', RefDone w R q w' q' (m.rename a b).2 ∧ q'.fv = q.fv ∧ q'.cs = q.cs := by
  have l1 := refIsPath a ha w
  have l2 := refIsPath b hb w
  have l3 := is_ref h (by have := hm.things; omega) a
  have l4 := refIsName b hb w
  have l5 := parent_ref h (by have := hm.things; omega) b hb
  have l6 := is_ref h (by have := hm.things; omega) b
  have l7 : Calls Tryz.prog 69 #[.pointer (some ⟨R, 0, none⟩), .agg #[.int .i64 3, .string a, .string b, .int .i64 0]] w _ := names_ref h hm.await hm.things hm.steps hm.paths ⟨3, a, b, 0⟩ (.inr (.inr (.inl rfl))) ha hb
  have c5 : w.cell? ⟨R, 5, none⟩ = some (.bool m.off) := h.cell 5
  have hsame := RefDone.same h (Below.refl _ _)
  have HS := Lib.hid hsame
  have L7 := Lib.hid l7
  have hna : (m.names ⟨3, a, b, 0⟩).1 = tickV m := names_fst _ _
  have HNA := Lib.hid hna
  obtain ⟨old, hold⟩ : ∃ old, isAt m.things a = old := ⟨_, rfl⟩
  obtain ⟨kk, hkk⟩ : ∃ kk, isAt m.things b = kk := ⟨_, rfl⟩
  have ho3 := isAt_le m.things a
  have hk3 := isAt_le m.things b
  unfold M.rename
  rw [hold] at l3 ho3 ⊢
  rw [hkk] at l6 hk3 ⊢
  obtain ⟨pa, hpa⟩ : ∃ pa, isPath a = pa := ⟨_, rfl⟩
  obtain ⟨pb, hpb⟩ : ∃ pb, isPath b = pb := ⟨_, rfl⟩
  obtain ⟨nb, hnb⟩ : ∃ nb, isName b = nb := ⟨_, rfl⟩
  obtain ⟨th, hth⟩ : ∃ th, parent m.things b = th := ⟨_, rfl⟩
  obtain ⟨of, hof⟩ : ∃ of, m.off = of := ⟨_, rfl⟩
  rw [hpa] at l1 ⊢
  rw [hpb] at l2 ⊢
  rw [hnb] at l4 ⊢
  rw [hth] at l5 ⊢
  rw [hof] at c5 ⊢
  have L1 := Lib.hid l1
  have L2 := Lib.hid l2
  have L3 := Lib.hid l3
  have L4 := Lib.hid l4
  have L5 := Lib.hid l5
  have L6 := Lib.hid l6
  clear h hm hsame l1 l2 l3 l4 l5 l6 l7 hpa hpb hnb hth hof hold hkk hna
  cases of
  · rw [if_neg (by decide)]
    by_cases hp : (pa && pb) = false
    · rw [if_pos hp]
      cases pa <;> cases pb <;> first
        | (exfalso; revert hp; decide)
        | (clear hp ho3 hk3
           go_enter Tryz.func36, Tryz.ntmps36
           go_wp2_with (first
             | (go_at_call 70; ((with_reducible refine L1.out.mono ?_); rintro r w2 ⟨rfl, rfl⟩))
             | (go_at_call 70; ((with_reducible refine L2.out.mono ?_); rintro r w2 ⟨rfl, rfl⟩))
             | (go_at_call 60; ((with_reducible refine L3.out.mono ?_); rintro r w2 ⟨rfl, rfl⟩))
             | (go_at_call 59; ((with_reducible refine L4.out.mono ?_); rintro r w2 ⟨rfl, rfl⟩))
             | (go_at_call 71; ((with_reducible refine L5.out.mono ?_); rintro r w2 ⟨rfl, rfl⟩))
             | (go_at_call 60; ((with_reducible refine L6.out.mono ?_); rintro r w2 ⟨rfl, rfl⟩))
             | (go_at_call 69; ((with_reducible refine L7.out.mono ?_); rintro r w2 ⟨rfl, q', hq'⟩)))
           go_ret
           exact ⟨rfl, q, HS.out, rfl, rfl⟩)
    · rw [if_neg hp]
      have hpa : pa = true := by cases pa; exact absurd rfl hp; rfl
      have hpb : pb = true := by subst hpa; cases pb; exact absurd rfl hp; rfl
      subst hpa hpb
      clear hp
      rcases ho3 with rfl | rfl | rfl
      · rw [if_neg (by simp), if_pos (.inl rfl)]
        clear hk3
        go_enter Tryz.func36, Tryz.ntmps36
        go_wp2_with (first
          | (go_at_call 70; ((with_reducible refine L1.out.mono ?_); rintro r w2 ⟨rfl, rfl⟩))
          | (go_at_call 70; ((with_reducible refine L2.out.mono ?_); rintro r w2 ⟨rfl, rfl⟩))
          | (go_at_call 60; ((with_reducible refine L3.out.mono ?_); rintro r w2 ⟨rfl, rfl⟩))
          | (go_at_call 59; ((with_reducible refine L4.out.mono ?_); rintro r w2 ⟨rfl, rfl⟩))
          | (go_at_call 71; ((with_reducible refine L5.out.mono ?_); rintro r w2 ⟨rfl, rfl⟩))
          | (go_at_call 60; ((with_reducible refine L6.out.mono ?_); rintro r w2 ⟨rfl, rfl⟩))
          | (go_at_call 69; ((with_reducible refine L7.out.mono ?_); rintro r w2 ⟨rfl, q', hq'⟩)))
        go_ret
        exact ⟨rfl, q, HS.out, rfl, rfl⟩
      · rw [if_neg (by simp)]
        cases th
        · rw [if_pos (.inr rfl)]
          clear hk3
          go_enter Tryz.func36, Tryz.ntmps36
          go_wp2_with (first
            | (go_at_call 70; ((with_reducible refine L1.out.mono ?_); rintro r w2 ⟨rfl, rfl⟩))
            | (go_at_call 70; ((with_reducible refine L2.out.mono ?_); rintro r w2 ⟨rfl, rfl⟩))
            | (go_at_call 60; ((with_reducible refine L3.out.mono ?_); rintro r w2 ⟨rfl, rfl⟩))
            | (go_at_call 59; ((with_reducible refine L4.out.mono ?_); rintro r w2 ⟨rfl, rfl⟩))
            | (go_at_call 71; ((with_reducible refine L5.out.mono ?_); rintro r w2 ⟨rfl, rfl⟩))
            | (go_at_call 60; ((with_reducible refine L6.out.mono ?_); rintro r w2 ⟨rfl, rfl⟩))
            | (go_at_call 69; ((with_reducible refine L7.out.mono ?_); rintro r w2 ⟨rfl, q', hq'⟩)))
          go_ret
          exact ⟨rfl, q, HS.out, rfl, rfl⟩
        · rw [if_neg (by simp)]
          rcases hk3 with rfl | rfl | rfl
          · rw [if_neg (by simp)]
            go_enter Tryz.func36, Tryz.ntmps36
            go_wp2_with (first
              | (go_at_call 70; ((with_reducible refine L1.out.mono ?_); rintro r w2 ⟨rfl, rfl⟩))
              | (go_at_call 70; ((with_reducible refine L2.out.mono ?_); rintro r w2 ⟨rfl, rfl⟩))
              | (go_at_call 60; ((with_reducible refine L3.out.mono ?_); rintro r w2 ⟨rfl, rfl⟩))
              | (go_at_call 59; ((with_reducible refine L4.out.mono ?_); rintro r w2 ⟨rfl, rfl⟩))
              | (go_at_call 71; ((with_reducible refine L5.out.mono ?_); rintro r w2 ⟨rfl, rfl⟩))
              | (go_at_call 60; ((with_reducible refine L6.out.mono ?_); rintro r w2 ⟨rfl, rfl⟩))
              | (go_at_call 69; ((with_reducible refine L7.out.mono ?_); rintro r w2 ⟨rfl, q', hq'⟩)))
            go_ret
            exact ⟨by rw [HNA.out]; rfl, q', hq'⟩
          · by_cases hab : a = b
            · rw [if_pos (.inr ⟨rfl, .inr hab⟩)]
              have b1 := bytes_eq hab
              clear hab
              go_enter Tryz.func36, Tryz.ntmps36
              go_wp2_with (first
                | (go_at_call 70; ((with_reducible refine L1.out.mono ?_); rintro r w2 ⟨rfl, rfl⟩))
                | (go_at_call 70; ((with_reducible refine L2.out.mono ?_); rintro r w2 ⟨rfl, rfl⟩))
                | (go_at_call 60; ((with_reducible refine L3.out.mono ?_); rintro r w2 ⟨rfl, rfl⟩))
                | (go_at_call 59; ((with_reducible refine L4.out.mono ?_); rintro r w2 ⟨rfl, rfl⟩))
                | (go_at_call 71; ((with_reducible refine L5.out.mono ?_); rintro r w2 ⟨rfl, rfl⟩))
                | (go_at_call 60; ((with_reducible refine L6.out.mono ?_); rintro r w2 ⟨rfl, rfl⟩))
                | (go_at_call 69; ((with_reducible refine L7.out.mono ?_); rintro r w2 ⟨rfl, q', hq'⟩)))
              go_ret
              exact ⟨rfl, q, HS.out, rfl, rfl⟩
            · rw [if_neg (by simp [hab])]
              have b1 := bytes_ne hab
              clear hab
              go_enter Tryz.func36, Tryz.ntmps36
              go_wp2_with (first
                | (go_at_call 70; ((with_reducible refine L1.out.mono ?_); rintro r w2 ⟨rfl, rfl⟩))
                | (go_at_call 70; ((with_reducible refine L2.out.mono ?_); rintro r w2 ⟨rfl, rfl⟩))
                | (go_at_call 60; ((with_reducible refine L3.out.mono ?_); rintro r w2 ⟨rfl, rfl⟩))
                | (go_at_call 59; ((with_reducible refine L4.out.mono ?_); rintro r w2 ⟨rfl, rfl⟩))
                | (go_at_call 71; ((with_reducible refine L5.out.mono ?_); rintro r w2 ⟨rfl, rfl⟩))
                | (go_at_call 60; ((with_reducible refine L6.out.mono ?_); rintro r w2 ⟨rfl, rfl⟩))
                | (go_at_call 69; ((with_reducible refine L7.out.mono ?_); rintro r w2 ⟨rfl, q', hq'⟩)))
              go_ret
              exact ⟨by rw [HNA.out]; rfl, q', hq'⟩
          · rw [if_pos (.inl rfl)]
            go_enter Tryz.func36, Tryz.ntmps36
            go_wp2_with (first
              | (go_at_call 70; ((with_reducible refine L1.out.mono ?_); rintro r w2 ⟨rfl, rfl⟩))
              | (go_at_call 70; ((with_reducible refine L2.out.mono ?_); rintro r w2 ⟨rfl, rfl⟩))
              | (go_at_call 60; ((with_reducible refine L3.out.mono ?_); rintro r w2 ⟨rfl, rfl⟩))
              | (go_at_call 59; ((with_reducible refine L4.out.mono ?_); rintro r w2 ⟨rfl, rfl⟩))
              | (go_at_call 71; ((with_reducible refine L5.out.mono ?_); rintro r w2 ⟨rfl, rfl⟩))
              | (go_at_call 60; ((with_reducible refine L6.out.mono ?_); rintro r w2 ⟨rfl, rfl⟩))
              | (go_at_call 69; ((with_reducible refine L7.out.mono ?_); rintro r w2 ⟨rfl, q', hq'⟩)))
            go_ret
            exact ⟨rfl, q, HS.out, rfl, rfl⟩
      · cases nb
        · rw [if_pos ⟨rfl, rfl⟩]
          clear hk3
          go_enter Tryz.func36, Tryz.ntmps36
          go_wp2_with (first
            | (go_at_call 70; ((with_reducible refine L1.out.mono ?_); rintro r w2 ⟨rfl, rfl⟩))
            | (go_at_call 70; ((with_reducible refine L2.out.mono ?_); rintro r w2 ⟨rfl, rfl⟩))
            | (go_at_call 60; ((with_reducible refine L3.out.mono ?_); rintro r w2 ⟨rfl, rfl⟩))
            | (go_at_call 59; ((with_reducible refine L4.out.mono ?_); rintro r w2 ⟨rfl, rfl⟩))
            | (go_at_call 71; ((with_reducible refine L5.out.mono ?_); rintro r w2 ⟨rfl, rfl⟩))
            | (go_at_call 60; ((with_reducible refine L6.out.mono ?_); rintro r w2 ⟨rfl, rfl⟩))
            | (go_at_call 69; ((with_reducible refine L7.out.mono ?_); rintro r w2 ⟨rfl, q', hq'⟩)))
          go_ret
          exact ⟨rfl, q, HS.out, rfl, rfl⟩
        · rw [if_neg (by simp)]
          cases th
          · rw [if_pos (.inr rfl)]
            clear hk3
            go_enter Tryz.func36, Tryz.ntmps36
            go_wp2_with (first
              | (go_at_call 70; ((with_reducible refine L1.out.mono ?_); rintro r w2 ⟨rfl, rfl⟩))
              | (go_at_call 70; ((with_reducible refine L2.out.mono ?_); rintro r w2 ⟨rfl, rfl⟩))
              | (go_at_call 60; ((with_reducible refine L3.out.mono ?_); rintro r w2 ⟨rfl, rfl⟩))
              | (go_at_call 59; ((with_reducible refine L4.out.mono ?_); rintro r w2 ⟨rfl, rfl⟩))
              | (go_at_call 71; ((with_reducible refine L5.out.mono ?_); rintro r w2 ⟨rfl, rfl⟩))
              | (go_at_call 60; ((with_reducible refine L6.out.mono ?_); rintro r w2 ⟨rfl, rfl⟩))
              | (go_at_call 69; ((with_reducible refine L7.out.mono ?_); rintro r w2 ⟨rfl, q', hq'⟩)))
            go_ret
            exact ⟨rfl, q, HS.out, rfl, rfl⟩
          · rw [if_neg (by simp)]
            rcases hk3 with rfl | rfl | rfl
            · rw [if_neg (by simp)]
              go_enter Tryz.func36, Tryz.ntmps36
              go_wp2_with (first
                | (go_at_call 70; ((with_reducible refine L1.out.mono ?_); rintro r w2 ⟨rfl, rfl⟩))
                | (go_at_call 70; ((with_reducible refine L2.out.mono ?_); rintro r w2 ⟨rfl, rfl⟩))
                | (go_at_call 60; ((with_reducible refine L3.out.mono ?_); rintro r w2 ⟨rfl, rfl⟩))
                | (go_at_call 59; ((with_reducible refine L4.out.mono ?_); rintro r w2 ⟨rfl, rfl⟩))
                | (go_at_call 71; ((with_reducible refine L5.out.mono ?_); rintro r w2 ⟨rfl, rfl⟩))
                | (go_at_call 60; ((with_reducible refine L6.out.mono ?_); rintro r w2 ⟨rfl, rfl⟩))
                | (go_at_call 69; ((with_reducible refine L7.out.mono ?_); rintro r w2 ⟨rfl, q', hq'⟩)))
              go_ret
              exact ⟨by rw [HNA.out]; rfl, q', hq'⟩
            · rw [if_pos (.inr ⟨rfl, .inl rfl⟩)]
              go_enter Tryz.func36, Tryz.ntmps36
              go_wp2_with (first
                | (go_at_call 70; ((with_reducible refine L1.out.mono ?_); rintro r w2 ⟨rfl, rfl⟩))
                | (go_at_call 70; ((with_reducible refine L2.out.mono ?_); rintro r w2 ⟨rfl, rfl⟩))
                | (go_at_call 60; ((with_reducible refine L3.out.mono ?_); rintro r w2 ⟨rfl, rfl⟩))
                | (go_at_call 59; ((with_reducible refine L4.out.mono ?_); rintro r w2 ⟨rfl, rfl⟩))
                | (go_at_call 71; ((with_reducible refine L5.out.mono ?_); rintro r w2 ⟨rfl, rfl⟩))
                | (go_at_call 60; ((with_reducible refine L6.out.mono ?_); rintro r w2 ⟨rfl, rfl⟩))
                | (go_at_call 69; ((with_reducible refine L7.out.mono ?_); rintro r w2 ⟨rfl, q', hq'⟩)))
              go_ret
              exact ⟨rfl, q, HS.out, rfl, rfl⟩
            · rw [if_pos (.inl rfl)]
              go_enter Tryz.func36, Tryz.ntmps36
              go_wp2_with (first
                | (go_at_call 70; ((with_reducible refine L1.out.mono ?_); rintro r w2 ⟨rfl, rfl⟩))
                | (go_at_call 70; ((with_reducible refine L2.out.mono ?_); rintro r w2 ⟨rfl, rfl⟩))
                | (go_at_call 60; ((with_reducible refine L3.out.mono ?_); rintro r w2 ⟨rfl, rfl⟩))
                | (go_at_call 59; ((with_reducible refine L4.out.mono ?_); rintro r w2 ⟨rfl, rfl⟩))
                | (go_at_call 71; ((with_reducible refine L5.out.mono ?_); rintro r w2 ⟨rfl, rfl⟩))
                | (go_at_call 60; ((with_reducible refine L6.out.mono ?_); rintro r w2 ⟨rfl, rfl⟩))
                | (go_at_call 69; ((with_reducible refine L7.out.mono ?_); rintro r w2 ⟨rfl, q', hq'⟩)))
              go_ret
              exact ⟨rfl, q, HS.out, rfl, rfl⟩
  · rw [if_pos rfl]
    clear ho3 hk3
    go_enter Tryz.func36, Tryz.ntmps36
    go_wp2_with (first
      | (go_at_call 70; ((with_reducible refine L1.out.mono ?_); rintro r w2 ⟨rfl, rfl⟩))
      | (go_at_call 70; ((with_reducible refine L2.out.mono ?_); rintro r w2 ⟨rfl, rfl⟩))
      | (go_at_call 60; ((with_reducible refine L3.out.mono ?_); rintro r w2 ⟨rfl, rfl⟩))
      | (go_at_call 59; ((with_reducible refine L4.out.mono ?_); rintro r w2 ⟨rfl, rfl⟩))
      | (go_at_call 71; ((with_reducible refine L5.out.mono ?_); rintro r w2 ⟨rfl, rfl⟩))
      | (go_at_call 60; ((with_reducible refine L6.out.mono ?_); rintro r w2 ⟨rfl, rfl⟩))
      | (go_at_call 69; ((with_reducible refine L7.out.mono ?_); rintro r w2 ⟨rfl, q', hq'⟩)))
    go_ret
    exact ⟨rfl, q, HS.out, rfl, rfl⟩

set_option maxRecDepth 100000 in
theorem Crash_ref (h : RefAt w R q m) (n : Int) : Calls Tryz.prog 78 #[.pointer (some ⟨R, 0, none⟩), .int .i64 n] w fun r w' => r = .returned (.tuple #[]) ∧ RefDone w R q w' q (m.crash n) := by
  have c6 : w.cell? ⟨R, 6, none⟩ = some (.int .i64 (m.await : Int)) := h.cell 6
  have hlt := h.lt
  have f6 : w.frozen? ⟨R, 6, none⟩ = false := h.fro 6
  have p1 := h.word 6 (.int .i64 0) { m with await := 0 } rfl rfl rfl rfl rfl
  have t1 : Turn (q.own R) w (w.setCell ⟨R, 6, none⟩ (.int .i64 0)) := (Turn.refl _ w).set _ _ (fun _ => .inl rfl)
  unfold M.crash
  by_cases hn : 0 < n
  · have p2 := p1.word 6 (.int .i64 n) { m with await := n.toNat } (by
      show refCells q { m with await := n.toNat } = _
      rw [show (Value.int .i64 n) = .int .i64 ((n.toNat : Nat) : Int) from by rw [Int.toNat_of_nonneg (by omega)]]
      rfl) rfl rfl rfl rfl
    have f7 : (w.setCell ⟨R, 6, none⟩ (.int .i64 0)).frozen? ⟨R, 6, none⟩ = false := p1.fro 6
    have c7 : (w.setCell ⟨R, 6, none⟩ (.int .i64 0)).cell? ⟨R, 6, none⟩ = some (.int .i64 0) := p1.cell 6
    have HD : Hid (RefDone w R q ((w.setCell ⟨R, 6, none⟩ (.int .i64 0)).setCell ⟨R, 6, none⟩ (.int .i64 n)) q { m with await := n.toNat }) := Lib.hid ⟨p2, t1.set _ _ (fun _ => .inl rfl), fun _ hk => .inl hk⟩
    clear p1 p2 t1 h
    go_enter Tryz.func78, Tryz.ntmps78
    go_wp2
    go_end0
    exact ⟨rfl, HD.out⟩
  · have e : n.toNat = 0 := by omega
    rw [e]
    have HD : Hid (RefDone w R q (w.setCell ⟨R, 6, none⟩ (.int .i64 0)) q { m with await := 0 }) := Lib.hid ⟨p1, t1, fun _ hk => .inl hk⟩
    clear p1 t1 h e
    go_enter Tryz.func78, Tryz.ntmps78
    go_wp2
    go_end0
    exact ⟨rfl, HD.out⟩

end
end Go.Proofs.YtmmlefbokplnnaaGreatDoor.Disk

namespace Go.Proofs.YtmmlefbokplnnaaGreatDoor.Disk
open Go.RowKit Go Go.Proofs.YtmmlefbokplnnaaGreatDoor.Base Go.Proofs.YtmmlefbokplnnaaGreatDoor.Map

theorem one_conv (W : World) (y : Nat) : (convert 91 9 (.slice (some ⟨W.heap.size, 0, none⟩) 1 1)).run Tryz.prog (W.alloc (.cells #[.int .u8 (y : Int)] 5)).drew = .ok (.string (strN [y])) (W.alloc (.cells #[.int .u8 (y : Int)] 5)).drew := by
  rw [← strN_of]
  refine run_convert_bytes_arg _ 91 5 Tryz.underlying91 Tryz.underlying5 W.heap.size 0 1 1 ([y].map fun (n : Nat) => (n : Int)) (by simp) ?_ 9 Tryz.underlying9
  intro i hi
  obtain rfl : i = 0 := by omega
  show (W.alloc _).cell? _ = _
  rw [cell_of_row _ W.heap.size 0 _ _ _ (heap_alloc_new W _)]
  rfl

theorem strN_set (t : List Nat) (k v : Nat) (hk : k < t.length) : strN (t.take k) ++ strN [v] ++ strN (t.drop (k + 1)) = strN (t.set k v) := by
  rw [strN_cat, strN_cat, List.set_eq_take_append_cons_drop, if_pos hk]
  simp

theorem strN_at (t : List Nat) (h8 : ∀ x ∈ t, x < 256) (k : Nat) (hk : k < (strN t).size) : ((strN t)[k]'hk).toNat = t.getD k 0 := by
  have h1 := nums_at (strN t) k hk
  rw [strN_nums t h8] at h1
  rw [List.getD_eq_getElem?_getD, h1]; rfl

section
variable {w : World} {R : Nat} {q : RefG} {m : M}

set_option maxRecDepth 100000 in
set_option maxHeartbeats 4000000 in
theorem Flip_ref (h : RefAt w R q m) (hm : Lim m) (hn : NumsIn m) (p : ByteArray) (hp : p.size < 4611686018427387904) (a : Int) (ha : inI a) (mk : Nat) (hmk : mk < 256) (h8 : ∀ i, i < m.files.length → ∀ x ∈ (m.fileAt i).now, x < 256) :
    Calls Tryz.prog 80 #[.pointer (some ⟨R, 0, none⟩), .string p, .int .i64 a, .int .u8 (mk : Int)] w fun r w' => r = .returned (.int .i64 ((m.flip p a mk).1 : Int)) ∧ ∃ q', RefDone w R q w' q' (m.flip p a mk).2 := by
  have l1 := file_ref h hm p hp
  have hfl := hm.files
  have hsame := RefDone.same h (Below.refl _ _)
  have HS := Lib.hid hsame
  have c3 : w.cell? ⟨R, 3, none⟩ = some q.fv := h.cell 3
  have htx := hm.texts
  by_cases hz : (m.file p).2 = 0
  · have hlt := M.file_lt hn hz
    have hfl2 : m.flip p a mk = if a < 0 ∨ ((m.fileAt (m.file p).1).now.length : Int) ≤ a then (6, m) else (0, m.setFile (m.file p).1 ⟨flipped (m.fileAt (m.file p).1).now a.toNat mk, flipped (m.fileAt (m.file p).1).now a.toNat mk, []⟩) := by
      unfold M.flip; rw [if_neg (by rw [hz]; decide)]; rfl
    rw [hfl2]
    rw [hz] at l1
    clear hfl2
    generalize (m.file p).1 = j at *
    obtain ⟨g, cap, hv, hcap, hg, k0, k1, k2⟩ := h.fileCells hlt
    clear k1 k2
    have hnow := htx _ (List.getElem_mem hlt)
    rw [← M.fileAt_eq hlt] at hnow
    have hb8 := h8 j hlt
    have HH := Lib.hid h
    have HV := Lib.hid hv
    have HLT := Lib.hid hlt
    have hfz : ∀ i, w.frozen? ⟨g, i, none⟩ = false := fun i => by
      have hrw := h.files
      rw [hv] at hrw
      exact World.ownsRow.frozenAt hrw i
    rw [hv] at c3
    obtain ⟨FN, hFN⟩ : ∃ FN, m.files.length = FN := ⟨_, rfl⟩
    rw [hFN] at c3 hcap hlt hfl
    obtain ⟨t, ht⟩ : ∃ t, (m.fileAt j).now = t := ⟨_, rfl⟩
    rw [ht] at k0 hnow hb8 ⊢
    obtain ⟨tx, htt⟩ : ∃ tx, strN t = tx := ⟨_, rfl⟩
    have hsz : tx.size = t.length := by rw [← htt, strN_size]
    rw [htt] at k0
    have HN := Lib.hid hnow
    clear h hm hn hsame hz htx hv hFN ht h8 hnow
    by_cases hr : a < 0 ∨ (t.length : Int) ≤ a
    · rw [if_pos hr]
      rw [← hsz] at hr
      clear hsz htt hb8
      by_cases h0 : a < 0
      all_goals
        go_enter Tryz.func80, Tryz.ntmps80
        go_wp2_with (go_at_call 72; refine l1.mono ?_; rintro r w2 ⟨rfl, rfl⟩)
        go_ret
        exact ⟨rfl, q, HS.out⟩
    · rw [if_neg hr]
      obtain ⟨k, rfl⟩ : ∃ k : Nat, a = (k : Int) := ⟨a.toNat, by omega⟩
      have hkl : k < tx.size := by omega
      have hklI : (k : Int) < (tx.size : Int) := by omega
      have hkt : ((k : Int)).toNat = k := Int.toNat_natCast k
      rw [hkt]
      have hb0 : (tx[k]'hkl).toNat = t.getD k 0 := by subst htt; exact strN_at t hb8 k hkl
      have hb0l : t.getD k 0 < 256 := by rw [← hb0]; exact (tx[k]'hkl).toNat_lt
      have hxr : bits BinOp.xor IntKind.u8 (((tx[k]'hkl).toNat : Nat) : Int) (mk : Int) = ((t.getD k 0 ^^^ mk : Nat) : Int) := by rw [hb0]; exact u8_xor_nat _ _ hb0l hmk
      have hs1 : tx.extract 0 k = strN (t.take k) := by rw [← htt]; exact strN_take _ _
      have hs2 : tx.extract (k + 1) tx.size = strN (t.drop (k + 1)) := by
        have := strN_extract t (k + 1) (tx.size - (k + 1))
        rw [htt, show k + 1 + (tx.size - (k + 1)) = tx.size from by omega] at this
        rw [this, List.take_of_length_le]
        rw [List.length_drop]; omega
      have hfin : (tx.extract 0 k ++ strN [t.getD k 0 ^^^ mk]) ++ tx.extract (k + 1) tx.size = strN (flipped t k mk) := by
        rw [hs1, hs2]; exact strN_set t k _ (by omega)
      have hw1 : IntKind.i64.wrap ((k : Int) + 1) = ((k + 1 : Nat) : Int) := by
        have := HN.out.1
        rw [IntWalk.i64_in _ (by omega)]; omega
      have hm1 : ¬ 9223372036854775807 < (tx.extract 0 k).size + (strN [t.getD k 0 ^^^ mk]).size := by
        rw [ByteArray.size_extract, strN_size]; have := HN.out.1; simp; omega
      have hm2 : ¬ 9223372036854775807 < (tx.extract 0 k ++ strN [t.getD k 0 ^^^ mk]).size + (tx.extract (k + 1) tx.size).size := by
        rw [ByteArray.size_append, ByteArray.size_extract, ByteArray.size_extract, strN_size]; have := HN.out.1; simp; omega
      have hcv := fun W => one_conv W (t.getD k 0 ^^^ mk)
      have HF := Lib.hid hfin
      have hszb : tx.size < 1099511627776 := by have := HN.out.1; omega
      generalize t.getD k 0 ^^^ mk = y at *
      clear hr hs1 hs2 hb8 hb0 hb0l hsz htt hfin
      go_enter Tryz.func80, Tryz.ntmps80
      go_wp2_with (go_at_call 72; refine l1.mono ?_; rintro r w2 ⟨rfl, rfl⟩)
      go_region
      have hbel : Below w.heap.size w (w.alloc (.cells #[.int .u8 (y : Int)] 5)).drew := (below_alloc _ _).drewN 1
      obtain ⟨w3, hw3⟩ : ∃ w3, (w.alloc (.cells #[.int .u8 (y : Int)] 5)).drew = w3 := ⟨_, rfl⟩
      rw [hw3] at hbel ⊢
      have hr3 : RefAt w3 R q m := HH.out.below hbel
      obtain ⟨g', cap', hv', hcc', hg', k0', k1', k2'⟩ := hr3.fileCells HLT.out
      have hgg : g' = g := by rw [HV.out] at hv'; simp at hv'; exact hv'.1.symm
      subst hgg
      obtain ⟨t0, ht0⟩ : ∃ t0, w3.cell? ⟨g', j * 3, none⟩ = some (.string t0) := ⟨_, k0'⟩
      obtain ⟨t1, ht1⟩ : ∃ t1, w3.cell? ⟨g', j * 3 + 1, none⟩ = some (.string t1) := ⟨_, k1'⟩
      obtain ⟨cv, hcv2⟩ : ∃ cv, w3.cell? ⟨g', j * 3 + 2, none⟩ = some cv := ⟨_, k2'⟩
      clear k0' k1' k2' hcc'
      have d3 : w3.cell? ⟨R, 3, none⟩ = some (.slice (some ⟨g', 0, none⟩) FN cap) := by
        rw [hbel.cell (by show R < _; exact HH.out.lt)]; exact c3
      have hst := hr3.storeFile HLT.out HV.out (flipped t k mk) (flipped t k mk)
      have hrw := hr3.files
      rw [HV.out] at hrw
      have fz : ∀ i, w3.frozen? ⟨g', i, none⟩ = false := fun i => World.ownsRow.frozenAt hrw i
      obtain ⟨bcells, hbk⟩ : ∃ cur, w3.heap[g']? = some (.cells cur 101) := row_cells hrw rfl
      rw [← HF.out] at hst
      obtain ⟨nt, hnt⟩ : ∃ nt, (tx.extract 0 k ++ strN [y]) ++ tx.extract (k + 1) tx.size = nt := ⟨_, rfl⟩
      rw [hnt] at hst ⊢
      have HD : Hid (RefDone w R q (((w3.setCell ⟨g', j * 3, none⟩ (.string nt)).setCell ⟨g', j * 3 + 1, none⟩ (.string nt)).setCell ⟨g', j * 3 + 2, none⟩ (.slice none 0 0)) { q with cs := q.cs.set j (.slice none 0 0) } (m.setFile j ⟨flipped t k mk, flipped t k mk, []⟩)) := Lib.hid (by
        refine ⟨hst, ?_, fun k hk => ?_⟩
        · have t1 : Turn (q.own R) w w3 := Turn.of_below hbel
          have og : q.own R g' := .inr (.inr (.inl (by rw [HV.out]; rfl)))
          exact ((t1.set _ _ (fun _ => og)).set _ _ (fun _ => og)).set _ _ (fun _ => og)
        · rcases hk with hk | hk | hk | ⟨v, hv2, hk⟩
          · exact .inl (.inl hk)
          · exact .inl (.inr (.inl hk))
          · exact .inl (.inr (.inr (.inl hk)))
          · simp only at hv2
            rcases List.mem_or_eq_of_mem_set hv2 with h3 | h3
            · exact .inl (.inr (.inr (.inr ⟨v, h3, hk⟩)))
            · subst h3; cases hk)
      have q1 : (w3.setCell ⟨g', j * 3, none⟩ (.string nt)).cell? ⟨g', j * 3 + 1, none⟩ = some (.string t1) := by
        rw [cell_of_row _ g' _ _ _ _ (heap_setCell_same w3 g' (j * 3) bcells _ _ hbk)]
        have := ht1
        rw [cell_of_row _ g' _ _ _ _ hbk] at this
        rw [Array.getElem?_setIfInBounds_ne (by omega)]
        exact this
      obtain ⟨u2, hu2⟩ : ∃ u, ((w3.setCell ⟨g', j * 3, none⟩ (.string nt)).setCell ⟨g', j * 3 + 1, none⟩ (.string nt)).cell? ⟨g', j * 3 + 2, none⟩ = some u := by
        refine ⟨cv, ?_⟩
        rw [cell_of_row _ g' _ _ _ _ (heap_setCell_same _ g' (j * 3 + 1) _ _ _ (heap_setCell_same w3 g' (j * 3) bcells _ _ hbk))]
        rw [Array.getElem?_setIfInBounds_ne (by omega), Array.getElem?_setIfInBounds_ne (by omega)]
        have := hcv2
        rw [cell_of_row _ g' _ _ _ _ hbk] at this
        exact this
      have f1 : (w3.setCell ⟨g', j * 3, none⟩ (.string nt)).frozen? ⟨g', j * 3 + 1, none⟩ = false := by
        simp only [World.frozen?, heap_setCell_same w3 g' (j * 3) bcells _ _ hbk]; rfl
      have f2 : ((w3.setCell ⟨g', j * 3, none⟩ (.string nt)).setCell ⟨g', j * 3 + 1, none⟩ (.string nt)).frozen? ⟨g', j * 3 + 2, none⟩ = false := by
        simp only [World.frozen?, heap_setCell_same _ g' (j * 3 + 1) _ _ _ (heap_setCell_same w3 g' (j * 3) bcells _ _ hbk)]; rfl
      clear hst hrw hbk hr3 hw3 hnt hbel hv' hxr hw1 hm1 hm2 hcv k0
      go_wp2
      go_ret
      exact ⟨rfl, _, HD.out⟩
  · have e : m.flip p a mk = ((m.file p).2, m) := by unfold M.flip; rw [if_pos hz]
    rw [e]
    have hz' : ¬ (((m.file p).2 : Nat) : Int) = 0 := by omega
    generalize (m.file p).2 = c at *
    generalize (m.file p).1 = j at *
    clear h hm hn hsame hz e
    go_enter Tryz.func80, Tryz.ntmps80
    go_wp2_with (go_at_call 72; refine l1.mono ?_; rintro r w2 ⟨rfl, rfl⟩)
    go_ret
    exact ⟨rfl, q, HS.out⟩

end
end Go.Proofs.YtmmlefbokplnnaaGreatDoor.Disk
