/-
  The texts DRename, joined. Own text.
-/
import Derived.Test.YtmmlefbokplnnaaGreatDoorJ17
set_option linter.unusedVariables false
set_option linter.unusedSimpArgs false
namespace Go.Proofs.YtmmlefbokplnnaaGreatDoor.Disk
open Go.RowKit Go Go.Proofs.YtmmlefbokplnnaaGreatDoor.Base Go.Proofs.YtmmlefbokplnnaaGreatDoor.Map

def blocked (G : DiskG) (a b : ByteArray) : Bool := existsG G.gc b && (isFolderG G.gc b || isFolderG G.gc a || decide (a = b))
def renameCode (G : DiskG) (a b : ByteArray) : Nat :=
  if G.off then 1 else if isPath a = false then 2 else if isPath b = false then 2 else if isFolderG G.gc a = true ∧ isName b = false then 2
  else if existsG G.gc a = false then 4 else if isFolderG G.gc (dirOf b) = false then 4 else if blocked G a b = true then 5 else if G.crash = 1 then 1 else 0

theorem toList_ne {a b : ByteArray} (h : a ≠ b) : (a.toList == b.toList) = false := by
  rw [beq_eq_false_iff_ne, toList_data, toList_data]
  intro e
  apply h
  cases a; cases b
  simp only [ByteArray.mk.injEq]
  exact Array.toList_inj.1 e
theorem quiet_same {P : Program} {f : FuncId} {args : Array Value} {w : World} {a : Nat} {v : Value} (h : Calls P f args (w.drewN a) fun e w' => e = .returned v ∧ w' = w.drewN a) :
    Calls P f args (w.drewN a) fun e w'' => e = .returned v ∧ ∃ m, w'' = w.drewN m :=
  h.mono fun _ _ ⟨he, hm⟩ => ⟨he, a, hm⟩

theorem Remove_any {w : World} {D : Nat} {G : DiskG} {E : Nat → Addr} (h : DiskAt w D G) (he : Env w E) (hn : NumsOk G) (hc : G.crash < 9223372036854775808) (hown : ∀ k, k < 8 → ¬ G.own D k) (hlen : G.steps.length < 1099511627776) (p : ByteArray) (hp : p.size < 4294967281)
    (hfs : ∀ i, i < G.pfs.length → (pfAt G i).bytes.length < 549755813888) (hsum : ∀ x, lookDir G.gc p = some x → lensOf G x.files < 1152921504606846976) (hused : G.used < 1152921504606846976) (hsz : isPath p = true → existsG G.gc p = true → sizeG G p ≤ G.used) :
    Calls Tryz.prog 37 #[.pointer (some ⟨D, 0, none⟩), .string p] w fun r w' =>
      ∃ v G', r = .returned v ∧ ErrAt w' E v (removeCode G p) "remove".toUTF8 p ∧ DiskAt w' D G' ∧ Turn (G.own D) w w' ∧ Stepped G ⟨4, p, ByteArray.empty, 0⟩ (sizeG G p) (removeCode G p) G' ∧ (∀ k, G'.own D k → G.own D k ∨ w.heap.size ≤ k) := by
  have h1 := remove_any h he hn hc hown hlen p hp hfs hsum hused hsz
  have h2 := fun W => refused_err ⟨#[114, 101, 109, 111, 118, 101]⟩ p E (removeCode G p) W
  have H1 := Lib.hid h1
  have H2 := Lib.hid h2
  clear h he hn hc hown hlen hp h1 h2 hfs hsum hused hsz
  go_enter Tryz.func37, Tryz.ntmps37
  go_wp2_with (first
    | (go_at_call 76; ((with_reducible refine H1.out.mono ?_); rintro r w2 ⟨rfl, G', hd, ht, hcr, hnew⟩))
    | (go_at_call 55; ((with_reducible refine (H2.out _).mono ?_); rintro r w3 ⟨v, rfl, hv, hb⟩)))
  go_ret
  exact ⟨_, G', rfl, hv, hd.below hb, ht.trans (Turn.of_below hb : Turn (fun _ => False) _ _) (fun _ _ h => h.elim), hcr, hnew⟩

set_option maxRecDepth 100000 in
set_option maxHeartbeats 8000000 in
theorem rename_any {w : World} {D : Nat} {G : DiskG} {E : Nat → Addr} (h : DiskAt w D G) (he : Env w E) (hn : NumsOk G) (hc : G.crash < 9223372036854775808) (hown : ∀ k, k < 8 → ¬ G.own D k) (hlen : G.steps.length < 1099511627776) (a b : ByteArray) (ha : a.size < 4294967281) (hb : b.size < 4294967281)
    (hfs : ∀ i, i < G.pfs.length → (pfAt G i).bytes.length < 549755813888) (hsum : ∀ x, lookDir G.gc b = some x → lensOf G x.files < 1152921504606846976) (hused : G.used < 1152921504606846976) (hsz : renameCode G a b = 0 ∨ renameCode G a b = 1 → sizeG G b ≤ G.used)
    (hfit : renameCode G a b = 0 ∨ (G.off = false ∧ renameCode G a b = 1) → MoveFits G.gc a b) :
    Calls Tryz.prog 75 #[.pointer (some ⟨D, 0, none⟩), .string a, .string b] w fun r w' =>
      r = .returned (errV E (renameCode G a b)) ∧ ∃ G', DiskAt w' D G' ∧ Turn (G.own D) w w' ∧ Stepped G ⟨3, a, b, 0⟩ (sizeG G b) (renameCode G a b) G' ∧ (∀ k, G'.own D k → G.own D k ∨ w.heap.size ≤ k) := by
  obtain ⟨w1, hw1⟩ : ∃ w1, w1 = (w.alloc (.cells #[.string a] 9)).alloc (.cells #[.string b] 9) := ⟨_, rfl⟩
  have hbel : Below w.heap.size w w1 := by rw [hw1]; exact (below_alloc _ _).alloc (by simp) _
  have h1 := h.below hbel
  have he1 : Env w1 E := he.turn (Turn.of_below (S := fun _ => False) hbel) (fun _ _ h => h)
  have hoff := off_any h1
  obtain ⟨a1, _, a3, a4, _⟩ := looks h1 he1.max a ha
  obtain ⟨b1, b2, b3, b4, _⟩ := looks h1 he1.max b hb
  have a3 := fun W => a3 W a
  have b3' := fun W => b3 W (dirOf b)
  have b3 := fun W => b3 W b
  have bN := fun W => (isName_any b (by omega) W).mono fun _ _ ⟨h1, h2⟩ => (⟨h1, h2.symm⟩ : _ ∧ _)
  have g0 := he1.off
  have g1 := he1.name
  have g3 := he1.missing
  have g4 := he1.exists'
  have z1 : w1.heap[w.heap.size]? = some (.cells #[.string a] 9) := by rw [hw1, heap_alloc_old _ _ (by simp)]; exact heap_alloc_new w _
  have z2 : w1.heap[w.heap.size + 1]? = some (.cells #[.string b] 9) := by rw [hw1]; have := heap_alloc_new (w.alloc (.cells #[.string a] 9)) (.cells #[.string b] 9); simpa using this
  have k1 : w1.cell? ⟨w.heap.size, 0, none⟩ = some (.string a) := by rw [cell_of_row _ _ _ _ _ _ z1]; rfl
  have k2 : w1.cell? ⟨w.heap.size + 1, 0, none⟩ = some (.string b) := by rw [cell_of_row _ _ _ _ _ _ z2]; rfl
  have H1 := Lib.hid h1
  have HB := Lib.hid hbel
  have H0 := Lib.hid h
  subst hw1
  cases ho : G.off
  · rw [ho] at hoff
    have hcode : renameCode G a b = (if isPath a = false then 2 else if isPath b = false then 2 else if isFolderG G.gc a = true ∧ isName b = false then 2
      else if existsG G.gc a = false then 4 else if isFolderG G.gc (dirOf b) = false then 4 else if blocked G a b = true then 5 else if G.crash = 1 then 1 else 0) := by unfold renameCode; rw [ho, if_neg (by decide)]
    rw [hcode] at hsz hfit ⊢
    clear hcode
    have hfit := fun h => hfit (Or.imp_right (fun h => ⟨ho, h⟩) h)
    have A1 := Lib.hid (a1 _ rfl)
    have a3 := fun k => a3 (((w.alloc (.cells #[.string a] 9)).alloc (.cells #[.string b] 9)).drewN k) rfl
    have A3 := Lib.hid a3
    have a4 := fun k => a4 (((w.alloc (.cells #[.string a] 9)).alloc (.cells #[.string b] 9)).drewN k) rfl
    have A4 := Lib.hid a4
    have b1 := fun n => b1 (((w.alloc (.cells #[.string a] 9)).alloc (.cells #[.string b] 9)).drewN n) rfl
    have B1 := Lib.hid b1
    have b2 := fun k => b2 (((w.alloc (.cells #[.string a] 9)).alloc (.cells #[.string b] 9)).drewN k) rfl
    have B2 := Lib.hid b2
    have b3 := fun k => b3 (((w.alloc (.cells #[.string a] 9)).alloc (.cells #[.string b] 9)).drewN k) rfl
    have B3 := Lib.hid b3
    have b3' := fun k => b3' (((w.alloc (.cells #[.string a] 9)).alloc (.cells #[.string b] 9)).drewN k) rfl
    have B3d := Lib.hid b3'
    have b4 := fun k => b4 (((w.alloc (.cells #[.string a] 9)).alloc (.cells #[.string b] 9)).drewN k) rfl
    have B4 := Lib.hid b4
    have bN := fun k => bN (((w.alloc (.cells #[.string a] 9)).alloc (.cells #[.string b] 9)).drewN k)
    have BN := Lib.hid bN
    clear a1 a3 a4 b1 b2 b3 b3' b4 bN
    cases hPa : isPath a
    · rw [if_pos rfl]
      rw [hPa] at A1
      unfold errV at g1 g3 g4 ⊢
      clear h he hn hc hown hlen hfs hsum hused hsz hfit he1 h1 hbel ha hb z1 z2
      go_enter Tryz.func75, Tryz.ntmps75
      go_wp2_with (first | (go_at_call 16; refine hoff.mono ?_; rintro r w2 ⟨rfl, rfl⟩) | (go_at_call 91; ((with_reducible refine A1.out.mono ?_); rintro r w2 ⟨rfl, n, rfl⟩)) | (go_at_call 91; ((with_reducible refine (B1.out _).mono ?_); rintro r w3 ⟨rfl, n2, rfl⟩)))
      go_ret
      first
        | exact ⟨rfl, G, H1.out.below ((Below.refl _ _).drewN _), Turn.of_below (HB.out.drewN _), .inl ⟨by decide, .inl ⟨rfl, .inr (by decide)⟩⟩, fun k hk => .inl hk⟩
        | exact ⟨rfl, G, H1.out.below (((Below.refl _ _).drewN _).drewN _), Turn.of_below ((HB.out.drewN _).drewN _), .inl ⟨by decide, .inl ⟨rfl, .inr (by decide)⟩⟩, fun k hk => .inl hk⟩
    · rw [if_neg (by decide)]
      rw [hPa, if_neg (by decide)] at hsz hfit
      rw [hPa] at A1
      cases hPb : isPath b
      · rw [if_pos rfl]
        rw [hPb] at B1
        unfold errV at g1 g3 g4 ⊢
        clear h he hn hc hown hlen hfs hsum hused hsz hfit he1 h1 hbel ha hb z1 z2
        go_enter Tryz.func75, Tryz.ntmps75
        go_wp2_with (first | (go_at_call 16; refine hoff.mono ?_; rintro r w2 ⟨rfl, rfl⟩) | (go_at_call 91; ((with_reducible refine A1.out.mono ?_); rintro r w2 ⟨rfl, n, rfl⟩)) | (go_at_call 91; ((with_reducible refine (B1.out _).mono ?_); rintro r w3 ⟨rfl, n2, rfl⟩)))
        go_ret
        first
          | exact ⟨rfl, G, H1.out.below ((Below.refl _ _).drewN _), Turn.of_below (HB.out.drewN _), .inl ⟨by decide, .inl ⟨rfl, .inr (by decide)⟩⟩, fun k hk => .inl hk⟩
          | exact ⟨rfl, G, H1.out.below (((Below.refl _ _).drewN _).drewN _), Turn.of_below ((HB.out.drewN _).drewN _), .inl ⟨by decide, .inl ⟨rfl, .inr (by decide)⟩⟩, fun k hk => .inl hk⟩
      · rw [if_neg (by decide)]
        rw [hPb, if_neg (by decide)] at hsz hfit
        rw [hPb] at B1
        by_cases hFN : isFolderG G.gc a = true ∧ isName b = false
        · rw [if_pos hFN]
          rw [hFN.1] at A3
          rw [hFN.2] at BN
          unfold errV at g1 g3 g4 ⊢
          clear h he hn hc hown hlen hfs hsum hused hsz hfit he1 h1 hbel ha hb z1 z2
          go_enter Tryz.func75, Tryz.ntmps75
          go_wp2_with (first | (go_at_call 16; refine hoff.mono ?_; rintro r w2 ⟨rfl, rfl⟩) | (go_at_call 91; ((with_reducible refine A1.out.mono ?_); rintro r w2 ⟨rfl, n, rfl⟩)) | (go_at_call 91; ((with_reducible refine (B1.out _).mono ?_); rintro r w3 ⟨rfl, n2, rfl⟩)))
          go_quiet (first | with_reducible exact quiet_plus (A3.out _) | with_reducible exact quiet_plus_same (A3.out _) | with_reducible exact quiet_zero (A3.out _) | with_reducible exact quiet_same (A3.out _) | with_reducible exact quiet_plus (BN.out _) | with_reducible exact quiet_plus_same (BN.out _) | with_reducible exact quiet_zero (BN.out _) | with_reducible exact quiet_same (BN.out _))
          go_wp2_with fail
          go_ret
          first
            | exact ⟨rfl, G, H1.out.below ((Below.refl _ _).drewN _), Turn.of_below (HB.out.drewN _), .inl ⟨by decide, .inl ⟨rfl, .inr (by decide)⟩⟩, fun k hk => .inl hk⟩
            | exact ⟨rfl, G, H1.out.below (((Below.refl _ _).drewN _).drewN _), Turn.of_below ((HB.out.drewN _).drewN _), .inl ⟨by decide, .inl ⟨rfl, .inr (by decide)⟩⟩, fun k hk => .inl hk⟩
        · rw [if_neg hFN] at hsz hfit ⊢
          -- the test goes by
          have step5 : ∃ fa nb, isFolderG G.gc a = fa ∧ isName b = nb ∧ ((fa = true ∧ nb = true) ∨ fa = false) := by
            refine ⟨_, _, rfl, rfl, ?_⟩
            cases hfa0 : isFolderG G.gc a
            · exact .inr rfl
            · cases hh : isName b
              · exact absurd ⟨by assumption, hh⟩ hFN
              · exact .inl ⟨rfl, rfl⟩
          obtain ⟨fa, nb, hfa, hnb, hfn⟩ := step5
          rw [hfa] at A3
          rw [hnb] at BN
          cases hXa : existsG G.gc a
          · rw [if_pos rfl]
            rw [hXa] at A4
            rcases hfn with ⟨rfl, rfl⟩ | rfl
            all_goals
              unfold errV at g1 g3 g4 ⊢
              clear h he hn hc hown hlen hfs hsum hused hsz hfit he1 h1 hbel ha hb z1 z2
              go_enter Tryz.func75, Tryz.ntmps75
              go_wp2_with (first | (go_at_call 16; refine hoff.mono ?_; rintro r w2 ⟨rfl, rfl⟩) | (go_at_call 91; ((with_reducible refine A1.out.mono ?_); rintro r w2 ⟨rfl, n, rfl⟩)) | (go_at_call 91; ((with_reducible refine (B1.out _).mono ?_); rintro r w3 ⟨rfl, n2, rfl⟩)))
              go_quiet (first | with_reducible exact quiet_plus (A3.out _) | with_reducible exact quiet_plus_same (A3.out _) | with_reducible exact quiet_zero (A3.out _) | with_reducible exact quiet_same (A3.out _) | with_reducible exact quiet_plus (BN.out _) | with_reducible exact quiet_plus_same (BN.out _) | with_reducible exact quiet_zero (BN.out _) | with_reducible exact quiet_same (BN.out _))
              go_wp2_with fail
              go_quiet (first | with_reducible exact quiet_plus (A4.out _) | with_reducible exact quiet_plus_same (A4.out _) | with_reducible exact quiet_zero (A4.out _) | with_reducible exact quiet_same (A4.out _))
              go_wp2_with fail
              go_ret
              first
                | exact ⟨rfl, G, H1.out.below ((Below.refl _ _).drewN _), Turn.of_below (HB.out.drewN _), .inl ⟨by decide, .inl ⟨rfl, .inr (by decide)⟩⟩, fun k hk => .inl hk⟩
                | exact ⟨rfl, G, H1.out.below (((Below.refl _ _).drewN _).drewN _), Turn.of_below ((HB.out.drewN _).drewN _), .inl ⟨by decide, .inl ⟨rfl, .inr (by decide)⟩⟩, fun k hk => .inl hk⟩
          · rw [if_neg (by decide)]
            rw [hXa, if_neg (by decide)] at hsz hfit
            rw [hXa] at A4
            cases hFd : isFolderG G.gc (dirOf b)
            · rw [if_pos rfl]
              rw [hFd] at B3d
              rcases hfn with ⟨rfl, rfl⟩ | rfl
              all_goals
                unfold errV at g1 g3 g4 ⊢
                clear h he hn hc hown hlen hfs hsum hused hsz hfit he1 h1 hbel ha hb z1 z2
                go_enter Tryz.func75, Tryz.ntmps75
                go_wp2_with (first | (go_at_call 16; refine hoff.mono ?_; rintro r w2 ⟨rfl, rfl⟩) | (go_at_call 91; ((with_reducible refine A1.out.mono ?_); rintro r w2 ⟨rfl, n, rfl⟩)) | (go_at_call 91; ((with_reducible refine (B1.out _).mono ?_); rintro r w3 ⟨rfl, n2, rfl⟩)))
                go_quiet (first | with_reducible exact quiet_plus (A3.out _) | with_reducible exact quiet_plus_same (A3.out _) | with_reducible exact quiet_zero (A3.out _) | with_reducible exact quiet_same (A3.out _) | with_reducible exact quiet_plus (BN.out _) | with_reducible exact quiet_plus_same (BN.out _) | with_reducible exact quiet_zero (BN.out _) | with_reducible exact quiet_same (BN.out _))
                go_wp2_with fail
                go_quiet (first | with_reducible exact quiet_plus (A4.out _) | with_reducible exact quiet_plus_same (A4.out _) | with_reducible exact quiet_zero (A4.out _) | with_reducible exact quiet_same (A4.out _))
                go_wp2_with fail
                go_quiet (first | with_reducible exact quiet_plus (B2.out _) | with_reducible exact quiet_plus_same (B2.out _) | with_reducible exact quiet_zero (B2.out _) | with_reducible exact quiet_same (B2.out _) | with_reducible exact quiet_plus (B3d.out _) | with_reducible exact quiet_plus_same (B3d.out _) | with_reducible exact quiet_zero (B3d.out _) | with_reducible exact quiet_same (B3d.out _))
                go_wp2_with fail
                go_ret
                first
                  | exact ⟨rfl, G, H1.out.below ((Below.refl _ _).drewN _), Turn.of_below (HB.out.drewN _), .inl ⟨by decide, .inl ⟨rfl, .inr (by decide)⟩⟩, fun k hk => .inl hk⟩
                  | exact ⟨rfl, G, H1.out.below (((Below.refl _ _).drewN _).drewN _), Turn.of_below ((HB.out.drewN _).drewN _), .inl ⟨by decide, .inl ⟨rfl, .inr (by decide)⟩⟩, fun k hk => .inl hk⟩
            · rw [if_neg (by decide)]
              rw [hFd, if_neg (by decide)] at hsz hfit
              rw [hFd] at B3d
              unfold blocked at hsz hfit ⊢
              rw [hfa] at hsz hfit ⊢
              obtain ⟨xb, hXb⟩ : ∃ x, existsG G.gc b = x := ⟨_, rfl⟩
              obtain ⟨fb, hFb⟩ : ∃ x, isFolderG G.gc b = x := ⟨_, rfl⟩
              rw [hXb, hFb] at hsz hfit ⊢
              rw [hXb] at B4
              rw [hFb] at B3
              by_cases hbl : (xb && (fb || fa || decide (a = b))) = true
              · rw [if_pos hbl]
                obtain ⟨rfl, hbl⟩ : xb = true ∧ (fb || fa || decide (a = b)) = true := by simpa using hbl
                have hways : (fb = true) ∨ (fb = false ∧ fa = true) ∨ (fb = false ∧ fa = false ∧ a = b) := by
                  cases fb <;> cases fa <;> simp_all
                rcases hfn with ⟨rfl, rfl⟩ | rfl <;> rcases hways with rfl | ⟨rfl, h'⟩ | ⟨rfl, h', hab⟩ <;> first | cases h' | skip
                all_goals
                  try clear h'
                  try subst hab
                  try (have hab2 : (a == a) = true := by simp)
                  unfold errV at g1 g3 g4 ⊢
                  clear h he hn hc hown hlen hfs hsum hused hsz hfit he1 h1 hbel ha hb z1 z2
                  go_enter Tryz.func75, Tryz.ntmps75
                  go_wp2_with (first | (go_at_call 16; refine hoff.mono ?_; rintro r w2 ⟨rfl, rfl⟩) | (go_at_call 91; ((with_reducible refine A1.out.mono ?_); rintro r w2 ⟨rfl, n, rfl⟩)) | (go_at_call 91; ((with_reducible refine (B1.out _).mono ?_); rintro r w3 ⟨rfl, n2, rfl⟩)))
                  go_quiet (first | with_reducible exact quiet_plus (A3.out _) | with_reducible exact quiet_plus_same (A3.out _) | with_reducible exact quiet_zero (A3.out _) | with_reducible exact quiet_same (A3.out _) | with_reducible exact quiet_plus (BN.out _) | with_reducible exact quiet_plus_same (BN.out _) | with_reducible exact quiet_zero (BN.out _) | with_reducible exact quiet_same (BN.out _))
                  go_wp2_with fail
                  go_quiet (first | with_reducible exact quiet_plus (A4.out _) | with_reducible exact quiet_plus_same (A4.out _) | with_reducible exact quiet_zero (A4.out _) | with_reducible exact quiet_same (A4.out _))
                  go_wp2_with fail
                  go_quiet (first | with_reducible exact quiet_plus (B2.out _) | with_reducible exact quiet_plus_same (B2.out _) | with_reducible exact quiet_zero (B2.out _) | with_reducible exact quiet_same (B2.out _) | with_reducible exact quiet_plus (B3d.out _) | with_reducible exact quiet_plus_same (B3d.out _) | with_reducible exact quiet_zero (B3d.out _) | with_reducible exact quiet_same (B3d.out _))
                  go_wp2_with fail
                  go_quiet (first | with_reducible exact quiet_plus (B4.out _) | with_reducible exact quiet_plus_same (B4.out _) | with_reducible exact quiet_zero (B4.out _) | with_reducible exact quiet_same (B4.out _) | with_reducible exact quiet_plus (B3.out _) | with_reducible exact quiet_plus_same (B3.out _) | with_reducible exact quiet_zero (B3.out _) | with_reducible exact quiet_same (B3.out _) | with_reducible exact quiet_plus (A3.out _) | with_reducible exact quiet_plus_same (A3.out _) | with_reducible exact quiet_zero (A3.out _) | with_reducible exact quiet_same (A3.out _))
                  go_wp2_with fail
                  go_ret
                  first
                    | exact ⟨rfl, G, H1.out.below ((Below.refl _ _).drewN _), Turn.of_below (HB.out.drewN _), .inl ⟨by decide, .inl ⟨rfl, .inr (by decide)⟩⟩, fun k hk => .inl hk⟩
                    | exact ⟨rfl, G, H1.out.below (((Below.refl _ _).drewN _).drewN _), Turn.of_below ((HB.out.drewN _).drewN _), .inl ⟨by decide, .inl ⟨rfl, .inr (by decide)⟩⟩, fun k hk => .inl hk⟩
              · rw [if_neg hbl] at hsz hfit ⊢
                have hways : xb = false ∨ (xb = true ∧ fb = false ∧ fa = false ∧ a ≠ b) := by
                  cases xb
                  · exact .inl rfl
                  · cases fb <;> cases fa <;> simp_all
                have hszu := hsz (by by_cases hcr : G.crash = 1; exact .inr (by rw [if_pos hcr]); exact .inl (by rw [if_neg hcr]))
                have hmf := hfit (by by_cases hcr : G.crash = 1; exact .inr (by rw [if_pos hcr]); exact .inl (by rw [if_neg hcr]))
                obtain ⟨Z, hZ⟩ : ∃ Z, sizeG G b = Z := ⟨_, rfl⟩
                rw [hZ] at hszu ⊢
                have hS : ∀ W, Below w.heap.size w W → DiskAt W D G → Calls Tryz.prog 102 #[.pointer (some ⟨D, 0, none⟩), .string b] W fun r w' => r = .returned (.int .i64 (Z : Int)) ∧ Below W.heap.size W w' := fun W hbw hd => by
                  have := size_any hd (he.turn (Turn.of_below (S := fun _ => False) hbw) (fun _ _ h => h)).max hn b hb hfs hsum
                  rw [hZ] at this
                  exact this
                have hCh : ∀ W, Below w.heap.size w W → W.heap[w.heap.size]? = some (.cells #[.string a] 9) → W.heap[w.heap.size + 1]? = some (.cells #[.string b] 9) → Calls Tryz.prog 94 #[.pointer (some ⟨D, 0, none⟩), .func (.func 103) #[] #[.pointer (some ⟨w.heap.size, 0, none⟩), .pointer (some ⟨w.heap.size + 1, 0, none⟩)]] W fun r w' =>
                    r = .returned (errV E (if G.crash = 1 then 1 else 0)) ∧ ∃ G', DiskAt w' D G' ∧ Turn (G.own D) w w' ∧ Stepped G ⟨3, a, b, 0⟩ 0 (if G.crash = 1 then 1 else 0) G' ∧ (∀ k, G'.own D k → G.own D k ∨ w.heap.size ≤ k) := fun W hbw hz1 hz2 =>
                  named_step h he hc hown hlen hbw (bs := [w.heap.size, w.heap.size + 1]) (s := ⟨3, a, b, 0⟩) (.inr (.inr (.inl ⟨w.heap.size, w.heap.size + 1, rfl, rfl, rfl, hz1, hz2⟩))) (fun x hx => by simp at hx; omega) ⟨fun hk => (by cases hk), ha, hb, fun _ => hmf⟩
                have HS := Lib.hid hS
                have HCH := Lib.hid hCh
                have HSZ := Lib.hid hszu
                have HZ1 := Lib.hid z1
                have HZ2 := Lib.hid z2
                clear h he hn hc hown hlen hfs hsum hsz hfit he1 h1 hbel ha hb z1 z2 hS hCh hszu hZ hmf hFN hbl
                by_cases hcr : G.crash = 1
                · rw [if_pos hcr]
                  rw [if_pos hcr] at HCH
                  unfold errV at HCH ⊢
                  clear hcr
                  rcases hfn with ⟨rfl, rfl⟩ | rfl <;> rcases hways with rfl | ⟨rfl, rfl, h', hab⟩ <;> first | cases h' | skip
                  all_goals
                    try clear h'
                    try (have hab2 : (a.toList == b.toList) = false := toList_ne hab)
                    go_enter Tryz.func75, Tryz.ntmps75
                    go_wp2_with (first | (go_at_call 16; refine hoff.mono ?_; rintro r w2 ⟨rfl, rfl⟩) | (go_at_call 91; ((with_reducible refine A1.out.mono ?_); rintro r w2 ⟨rfl, n, rfl⟩)) | (go_at_call 91; ((with_reducible refine (B1.out _).mono ?_); rintro r w3 ⟨rfl, n2, rfl⟩)))
                    go_quiet (first | with_reducible exact quiet_plus (A3.out _) | with_reducible exact quiet_plus_same (A3.out _) | with_reducible exact quiet_zero (A3.out _) | with_reducible exact quiet_same (A3.out _) | with_reducible exact quiet_plus (BN.out _) | with_reducible exact quiet_plus_same (BN.out _) | with_reducible exact quiet_zero (BN.out _) | with_reducible exact quiet_same (BN.out _))
                    go_wp2_with fail
                    go_quiet (first | with_reducible exact quiet_plus (A4.out _) | with_reducible exact quiet_plus_same (A4.out _) | with_reducible exact quiet_zero (A4.out _) | with_reducible exact quiet_same (A4.out _))
                    go_wp2_with fail
                    go_quiet (first | with_reducible exact quiet_plus (B2.out _) | with_reducible exact quiet_plus_same (B2.out _) | with_reducible exact quiet_zero (B2.out _) | with_reducible exact quiet_same (B2.out _) | with_reducible exact quiet_plus (B3d.out _) | with_reducible exact quiet_plus_same (B3d.out _) | with_reducible exact quiet_zero (B3d.out _) | with_reducible exact quiet_same (B3d.out _))
                    go_wp2_with fail
                    go_quiet (first | with_reducible exact quiet_plus (B4.out _) | with_reducible exact quiet_plus_same (B4.out _) | with_reducible exact quiet_zero (B4.out _) | with_reducible exact quiet_same (B4.out _) | with_reducible exact quiet_plus (B3.out _) | with_reducible exact quiet_plus_same (B3.out _) | with_reducible exact quiet_zero (B3.out _) | with_reducible exact quiet_same (B3.out _) | with_reducible exact quiet_plus (A3.out _) | with_reducible exact quiet_plus_same (A3.out _) | with_reducible exact quiet_zero (A3.out _) | with_reducible exact quiet_same (A3.out _))
                    go_wp2_with fail
                    simp only [World.drewN_drewN]
                    generalize hWQ : World.drewN (World.alloc (World.alloc w _) _) _ = WQ
                    have hWh : WQ.heap = ((w.alloc (.cells #[.string a] 9)).alloc (.cells #[.string b] 9)).heap := by rw [← hWQ]; rfl
                    have hbW : Below w.heap.size w WQ.drew := by rw [← hWQ]; first | exact ((HB.out.drewN _)).drew | exact ((HB.out.drewN _).drewN _).drew
                    have hdW : DiskAt WQ.drew D G := by rw [← hWQ]; first | exact H1.out.below ((((Below.refl _ _).drewN _)).drew) | exact H1.out.below ((((Below.refl _ _).drewN _).drewN _).drew)
                    have hcW : WQ.drew.heap[w.heap.size]? = some (.cells #[.string a] 9) := by show WQ.heap[_]? = _; rw [hWh]; exact HZ1.out
                    have hcV : WQ.drew.heap[w.heap.size + 1]? = some (.cells #[.string b] 9) := by show WQ.heap[_]? = _; rw [hWh]; exact HZ2.out
                    have hcW2 : WQ.drew.cell? ⟨w.heap.size + 1, 0, none⟩ = some (.string b) := by rw [cell_of_row _ _ _ _ _ _ hcV]; rfl
                    have HSW := Lib.hid (HS.out WQ.drew hbW hdW)
                    have HBW := Lib.hid hbW
                    have HCW := Lib.hid hcW
                    have HCV := Lib.hid hcV
                    clear hWQ hWh hbW hdW hcW hcV
                    refine wp_region_still_tail 4 (by kernel_rfl) (by kernel_rfl) ?_
                    simp only [List.take_succ_cons, List.take_zero, List.drop_succ_cons, List.drop_zero]
                    change wpStill _ _ WQ.drew _ _ _
                    repeat still_step
                    refine wpStill_nil ?_
                    change wpList _ _ _ _ _ WQ.drew
                    go_wp2_with (first
                      | (go_at_call 102; ((refine HSW.out.mono ?_); rintro r w4 ⟨rfl, hb4⟩; have hz4 : w4.heap[w.heap.size]? = some (.cells #[.string a] 9) := (hb4.block w.heap.size (Array.getElem?_eq_some_iff.1 HCW.out).1).trans HCW.out; have hz5 : w4.heap[w.heap.size + 1]? = some (.cells #[.string b] 9) := (hb4.block (w.heap.size + 1) (Array.getElem?_eq_some_iff.1 HCV.out).1).trans HCV.out; have hbw4 : Below w.heap.size w w4 := HBW.out.trans (hb4.mono HBW.out.size)))
                      | (go_at_call 94; ((refine (HCH.out w4 hbw4 hz4 hz5).mono ?_); rintro r w5 ⟨rfl, G', hd5, ht5, hs5, hk5⟩)))
                    go_ret
                    rcases hs5 with ⟨_, hr⟩ | ⟨hr, _⟩
                    · exact ⟨rfl, G', hd5, ht5, .inl ⟨by decide, hr⟩, hk5⟩
                    · cases hr
                · rw [if_neg hcr]
                  rw [if_neg hcr] at HCH
                  unfold errV at HCH ⊢
                  clear hcr
                  have husub : IntKind.i64.wrap ((G.used : Int) - (Z : Int)) = (G.used : Int) - (Z : Int) := by rw [IntWalk.i64_in _ (by have := HSZ.out; omega)]
                  rcases hfn with ⟨rfl, rfl⟩ | rfl <;> rcases hways with rfl | ⟨rfl, rfl, h', hab⟩ <;> first | cases h' | skip
                  all_goals
                    try clear h'
                    try (have hab2 : (a.toList == b.toList) = false := toList_ne hab)
                    go_enter Tryz.func75, Tryz.ntmps75
                    go_wp2_with (first | (go_at_call 16; refine hoff.mono ?_; rintro r w2 ⟨rfl, rfl⟩) | (go_at_call 91; ((with_reducible refine A1.out.mono ?_); rintro r w2 ⟨rfl, n, rfl⟩)) | (go_at_call 91; ((with_reducible refine (B1.out _).mono ?_); rintro r w3 ⟨rfl, n2, rfl⟩)))
                    go_quiet (first | with_reducible exact quiet_plus (A3.out _) | with_reducible exact quiet_plus_same (A3.out _) | with_reducible exact quiet_zero (A3.out _) | with_reducible exact quiet_same (A3.out _) | with_reducible exact quiet_plus (BN.out _) | with_reducible exact quiet_plus_same (BN.out _) | with_reducible exact quiet_zero (BN.out _) | with_reducible exact quiet_same (BN.out _))
                    go_wp2_with fail
                    go_quiet (first | with_reducible exact quiet_plus (A4.out _) | with_reducible exact quiet_plus_same (A4.out _) | with_reducible exact quiet_zero (A4.out _) | with_reducible exact quiet_same (A4.out _))
                    go_wp2_with fail
                    go_quiet (first | with_reducible exact quiet_plus (B2.out _) | with_reducible exact quiet_plus_same (B2.out _) | with_reducible exact quiet_zero (B2.out _) | with_reducible exact quiet_same (B2.out _) | with_reducible exact quiet_plus (B3d.out _) | with_reducible exact quiet_plus_same (B3d.out _) | with_reducible exact quiet_zero (B3d.out _) | with_reducible exact quiet_same (B3d.out _))
                    go_wp2_with fail
                    go_quiet (first | with_reducible exact quiet_plus (B4.out _) | with_reducible exact quiet_plus_same (B4.out _) | with_reducible exact quiet_zero (B4.out _) | with_reducible exact quiet_same (B4.out _) | with_reducible exact quiet_plus (B3.out _) | with_reducible exact quiet_plus_same (B3.out _) | with_reducible exact quiet_zero (B3.out _) | with_reducible exact quiet_same (B3.out _) | with_reducible exact quiet_plus (A3.out _) | with_reducible exact quiet_plus_same (A3.out _) | with_reducible exact quiet_zero (A3.out _) | with_reducible exact quiet_same (A3.out _))
                    go_wp2_with fail
                    simp only [World.drewN_drewN]
                    generalize hWQ : World.drewN (World.alloc (World.alloc w _) _) _ = WQ
                    have hWh : WQ.heap = ((w.alloc (.cells #[.string a] 9)).alloc (.cells #[.string b] 9)).heap := by rw [← hWQ]; rfl
                    have hbW : Below w.heap.size w WQ.drew := by rw [← hWQ]; first | exact ((HB.out.drewN _)).drew | exact ((HB.out.drewN _).drewN _).drew
                    have hdW : DiskAt WQ.drew D G := by rw [← hWQ]; first | exact H1.out.below ((((Below.refl _ _).drewN _)).drew) | exact H1.out.below ((((Below.refl _ _).drewN _).drewN _).drew)
                    have hcW : WQ.drew.heap[w.heap.size]? = some (.cells #[.string a] 9) := by show WQ.heap[_]? = _; rw [hWh]; exact HZ1.out
                    have hcV : WQ.drew.heap[w.heap.size + 1]? = some (.cells #[.string b] 9) := by show WQ.heap[_]? = _; rw [hWh]; exact HZ2.out
                    have hcW2 : WQ.drew.cell? ⟨w.heap.size + 1, 0, none⟩ = some (.string b) := by rw [cell_of_row _ _ _ _ _ _ hcV]; rfl
                    have HSW := Lib.hid (HS.out WQ.drew hbW hdW)
                    have HBW := Lib.hid hbW
                    have HCW := Lib.hid hcW
                    have HCV := Lib.hid hcV
                    clear hWQ hWh hbW hdW hcW hcV
                    refine wp_region_still_tail 4 (by kernel_rfl) (by kernel_rfl) ?_
                    simp only [List.take_succ_cons, List.take_zero, List.drop_succ_cons, List.drop_zero]
                    change wpStill _ _ WQ.drew _ _ _
                    repeat still_step
                    refine wpStill_nil ?_
                    change wpList _ _ _ _ _ WQ.drew
                    go_wp2_with (first
                      | (go_at_call 102; ((refine HSW.out.mono ?_); rintro r w4 ⟨rfl, hb4⟩; have hz4 : w4.heap[w.heap.size]? = some (.cells #[.string a] 9) := (hb4.block w.heap.size (Array.getElem?_eq_some_iff.1 HCW.out).1).trans HCW.out; have hz5 : w4.heap[w.heap.size + 1]? = some (.cells #[.string b] 9) := (hb4.block (w.heap.size + 1) (Array.getElem?_eq_some_iff.1 HCV.out).1).trans HCV.out; have hbw4 : Below w.heap.size w w4 := HBW.out.trans (hb4.mono HBW.out.size)))
                      | (go_at_call 94; ((refine (HCH.out w4 hbw4 hz4 hz5).mono ?_); rintro r w5 ⟨rfl, G', hd5, ht5, hs5, hk5⟩; have c4 : w5.cell? ⟨D, 4, none⟩ = some (.int .i64 (G.used : Int)) := (by (rcases hs5 with ⟨hr, _⟩ | ⟨_, _, _, _, _, _, _, _, _, _, _, hu, _⟩; exact absurd rfl hr; have := hd5.cell 4; simp only [DiskG.cells, hu] at this; exact this)); have f4 := hd5.fro 4; have HD5 := Lib.hid hd5; have HS5 := Lib.hid hs5; clear hd5 hs5)))
                    go_ret
                    obtain ⟨G2, hd2, hs2, ho2⟩ := HD5.out.minus HS5.out Z HSZ.out
                    exact ⟨rfl, G2, hd2, ht5.set _ _ (fun _ => .inl rfl), hs2, fun k hk => hk5 k (by rw [← ho2]; exact hk)⟩
  · rw [ho] at hoff
    have hcode : renameCode G a b = 1 := by unfold renameCode; rw [ho, if_pos rfl]
    rw [hcode]
    unfold errV at g0 ⊢
    have HOF := Lib.hid ho
    clear h he hn hc hown hlen hfs hsum hused hsz hfit he1 h1 hbel ha hb z1 z2 a1 a3 a4 b1 b2 b3 b3' b4 bN ho hcode
    go_enter Tryz.func75, Tryz.ntmps75
    go_wp2_with (go_at_call 16; refine hoff.mono ?_; rintro r w2 ⟨rfl, rfl⟩)
    go_ret
    exact ⟨rfl, G, H1.out, Turn.of_below HB.out, .inl ⟨by decide, .inl ⟨rfl, .inl HOF.out⟩⟩, fun k hk => .inl hk⟩

theorem Rename_any {w : World} {D : Nat} {G : DiskG} {E : Nat → Addr} (h : DiskAt w D G) (he : Env w E) (hn : NumsOk G) (hc : G.crash < 9223372036854775808) (hown : ∀ k, k < 8 → ¬ G.own D k) (hlen : G.steps.length < 1099511627776) (a b : ByteArray) (ha : a.size < 4294967281) (hb : b.size < 4294967281)
    (hfs : ∀ i, i < G.pfs.length → (pfAt G i).bytes.length < 549755813888) (hsum : ∀ x, lookDir G.gc b = some x → lensOf G x.files < 1152921504606846976) (hused : G.used < 1152921504606846976) (hsz : renameCode G a b = 0 ∨ renameCode G a b = 1 → sizeG G b ≤ G.used)
    (hfit : renameCode G a b = 0 ∨ (G.off = false ∧ renameCode G a b = 1) → MoveFits G.gc a b) :
    Calls Tryz.prog 35 #[.pointer (some ⟨D, 0, none⟩), .string a, .string b] w fun r w' =>
      ∃ v G', r = .returned v ∧ ErrAt w' E v (renameCode G a b) "rename".toUTF8 a ∧ DiskAt w' D G' ∧ Turn (G.own D) w w' ∧ Stepped G ⟨3, a, b, 0⟩ (sizeG G b) (renameCode G a b) G' ∧ (∀ k, G'.own D k → G.own D k ∨ w.heap.size ≤ k) := by
  have h1 := rename_any h he hn hc hown hlen a b ha hb hfs hsum hused hsz hfit
  have h2 := fun W => refused_err ⟨#[114, 101, 110, 97, 109, 101]⟩ a E (renameCode G a b) W
  have H1 := Lib.hid h1
  have H2 := Lib.hid h2
  clear h he hn hc hown hlen ha hb h1 h2 hfs hsum hused hsz hfit
  go_enter Tryz.func35, Tryz.ntmps35
  go_wp2_with (first
    | (go_at_call 75; ((with_reducible refine H1.out.mono ?_); rintro r w2 ⟨rfl, G', hd, ht, hcr, hnew⟩))
    | (go_at_call 55; ((with_reducible refine (H2.out _).mono ?_); rintro r w3 ⟨v, rfl, hv, hb⟩)))
  go_ret
  exact ⟨_, G', rfl, hv, hd.below hb, ht.trans (Turn.of_below hb : Turn (fun _ => False) _ _) (fun _ _ h => h.elim), hcr, hnew⟩

end Go.Proofs.YtmmlefbokplnnaaGreatDoor.Disk
