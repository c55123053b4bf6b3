/-
  All, Sync. Own text.
-/
import Derived.Test.YtanbmlikfhcpoaaDoorDFiled
namespace Go.Proofs.YtanbmlikfhcpoaaDoor.Disk
open Go.RowKit Go Go.Proofs.YtanbmlikfhcpoaaDoor.Base Go.Proofs.YtanbmlikfhcpoaaDoor.Map

theorem get_mem {α : Type} {l : List (ByteArray × α)} {k : ByteArray} {v : α} (h : Map.get l k = some v) : (k, v) ∈ l := by
  induction l with
  | nil => cases h
  | cons p r ih =>
    unfold Map.get at h
    split at h
    · rename_i hk
      injection h with h
      rw [← hk, ← h]
      exact List.mem_cons_self
    · exact List.mem_cons_of_mem _ (ih h)

theorem fileOf_lt {G : DiskG} (hn : NumsOk G) {p : ByteArray} {i : Nat} (h : fileOf G.gc p = some i) : i < G.pfs.length := by
  unfold fileOf lookFile at h
  cases hl : lookDir G.gc (dirOf p) with
  | none => rw [hl] at h; cases h
  | some x =>
    rw [hl] at h
    exact hn.cur x (lookDir_mem hl).1 _ (get_mem h)

theorem open_file {G : DiskG} {p : ByteArray} (h : openCode G p = 0) : ∃ i, fileOf G.gc p = some i ∧ openV G p = ptrV G.ptr i := by
  cases hf : fileOf G.gc p with
  | none =>
    exfalso
    unfold openCode at h
    rw [hf] at h
    simp at h
    split at h
    · cases h
    · split at h
      · cases h
      · split at h <;> cases h
  | some i => exact ⟨i, rfl, by unfold openV; rw [if_pos h, hf]; rfl⟩

theorem open_none {G : DiskG} {p : ByteArray} (h : openCode G p ≠ 0) : openV G p = .pointer none := by unfold openV; rw [if_neg h]

def pfAt (G : DiskG) (i : Nat) : PF := G.pfs.getD i ⟨[], []⟩
theorem pfAt_eq {G : DiskG} {i : Nat} (h : i < G.pfs.length) : G.pfs[i] = pfAt G i := by simp [pfAt, List.getD, h]

/-- what All tells -/
def allText (G : DiskG) (p : ByteArray) : List Nat := if openCode G p = 0 then (pfAt G ((fileOf G.gc p).getD 0)).bytes else []

set_option maxRecDepth 100000 in
set_option maxHeartbeats 2000000 in
theorem All_any {w : World} {D : Nat} {G : DiskG} {E : Nat → Addr} (h : DiskAt w D G) (he : Env w E) (hn : NumsOk G) (p : ByteArray) (hp : p.size < 4294967281) :
    Calls Tryd.prog 12 #[.pointer (some ⟨D, 0, none⟩), .string p] w fun r w' =>
      ∃ v, r = .returned (.tuple #[.string (strN (allText G p)), v]) ∧ ErrAt w' E v (openCode G p) "read".toUTF8 p ∧ Below w.heap.size w w' := by
  have ho := open_any h he p hp
  by_cases hz : openCode G p = 0
  · obtain ⟨i, hfo, hv⟩ := open_file hz
    have hi := fileOf_lt hn hfo
    have hfile := h.parts.files i hi
    rw [pfAt_eq hi] at hfile
    have e1 : allText G p = (pfAt G i).bytes := by unfold allText; rw [if_pos hz, hfo]; rfl
    rw [e1]
    rw [hz, hv] at ho
    rw [hz]
    unfold errV ptrV at ho
    have c0 : ∀ n, (w.drewN n).cell? ⟨G.ptr i, 0, none⟩ = some (G.bvs i) := fun n => hfile.cell0
    have hcv : ∀ n, (convert 30 9 (G.bvs i)).run Tryd.prog (w.drewN n) = .ok (.string (strN (pfAt G i).bytes)) (w.drewN n) := fun n => conv_own hfile.bytes
    clear h he hn hp hfo hv hi hfile e1
    generalize strN (pfAt G i).bytes = s at hcv ⊢
    generalize G.bvs i = bv at c0 hcv
    go_enter Tryd.func12, Tryd.ntmps12
    go_wp2_with (go_at_call 29; refine ho.mono ?_; rintro r w2 ⟨rfl, n, rfl⟩)
    go_ret2
    exact ⟨_, rfl, .inl ⟨rfl, rfl⟩, (Below.refl _ _).drewN n⟩
  · have e1 : allText G p = [] := by unfold allText; rw [if_neg hz]
    rw [e1]
    rw [open_none hz] at ho
    obtain ⟨c, hc⟩ : ∃ c, openCode G p = c + 1 := ⟨openCode G p - 1, by omega⟩
    rw [hc] at ho ⊢
    have h2 := fun W => refused_err ⟨#[114, 101, 97, 100]⟩ p E (c + 1) W
    have H2 := Lib.hid h2
    unfold errV at ho H2
    clear h he hn hp h2 e1 hc hz
    go_enter Tryd.func12, Tryd.ntmps12
    go_wp2_with (first
      | (go_at_call 29; refine ho.mono ?_; rintro r w2 ⟨rfl, n, rfl⟩)
      | (go_at_call 16; ((with_reducible refine (H2.out _).mono ?_); rintro r w3 ⟨v, rfl, hv, hb⟩)))
    go_ret2
    exact ⟨_, rfl, hv, ((Below.refl _ _).drewN n : Below w.heap.size w _).trans hb⟩

def syncCode (G : DiskG) (p : ByteArray) : Nat := if openCode G p ≠ 0 then openCode G p else if G.crash = 1 then 1 else 0
def Synced (G : DiskG) (p : ByteArray) (c : Nat) (G' : DiskG) : Prop :=
  (c ≠ 0 ∧ (G' = G ∨ (G.crash = 1 ∧ G' = { G with off := true }))) ∨
  (c = 0 ∧ ∃ i, fileOf G.gc p = some i ∧ G' = DiskG.file { G with crash := G.crash - 1 } i ⟨(pfAt G i).bytes, []⟩ (G.bvs i) (.slice none 0 0))

set_option maxRecDepth 100000 in
set_option maxHeartbeats 2000000 in
theorem sync_any {w : World} {D : Nat} {G : DiskG} {E : Nat → Addr} (h : DiskAt w D G) (he : Env w E) (hn : NumsOk G) (hc : G.crash < 4611686018427387904) (p : ByteArray) (hp : p.size < 4294967281) :
    Calls Tryd.prog 20 #[.pointer (some ⟨D, 0, none⟩), .string p] w fun r w' =>
      r = .returned (errV E (syncCode G p)) ∧ ∃ G', DiskAt w' D G' ∧ Turn (G.own D) w w' ∧ Synced G p (syncCode G p) G' ∧ (∀ k, G'.own D k → G.own D k ∨ w.heap.size ≤ k) := by
  have ho := open_any h he p hp
  unfold syncCode
  by_cases hz : openCode G p = 0
  · obtain ⟨i, hfo, hv⟩ := open_file hz
    have hi := fileOf_lt hn hfo
    rw [hz, hv] at ho
    rw [if_neg (by omega)]
    have hst : ∀ n, Calls Tryd.prog 41 #[.pointer (some ⟨D, 0, none⟩)] (w.drewN n) fun e w' => e = .returned (errV E (stepCode G)) ∧ DiskAt w' D (ticked G) ∧ Turn (fun k => k = D) (w.drewN n) w' := fun n =>
      step_any (h.below ((Below.refl _ _).drewN n)) (he.turn (Turn.of_drew (S := fun _ => False) n) (fun _ _ h => h)) hc
    have HN := Lib.hid hn
    have Hi := Lib.hid hi
    have Hfo := Lib.hid hfo
    have HS := Lib.hid hst
    by_cases h1 : G.crash = 1
    · have e1 : stepCode G = 1 := by unfold stepCode; rw [if_pos h1]
      have e2 : ticked G = { G with off := true } := by unfold ticked; rw [if_pos h1]
      rw [e1, e2] at HS
      rw [if_pos h1]
      have H1 := Lib.hid h1
      unfold errV at ho HS ⊢
      unfold ptrV at ho
      clear h he hn hp hfo hv hi hst h1 e1 e2 hc hz
      go_enter Tryd.func20, Tryd.ntmps20
      go_wp2_with (first
        | (go_at_call 29; refine ho.mono ?_; rintro r w2 ⟨rfl, n, rfl⟩)
        | (go_at_call 41; ((with_reducible refine (HS.out _).mono ?_); rintro r w3 ⟨rfl, hd3, ht3⟩)))
      go_ret
      exact ⟨rfl, _, hd3, (Turn.of_drew n).trans ht3 (fun i _ hh => .inl hh), .inl ⟨by decide, .inr ⟨H1.out, rfl⟩⟩, fun k hk => .inl hk⟩
    · have e1 : stepCode G = 0 := by unfold stepCode; rw [if_neg h1]
      have e2 : ticked G = { G with crash := G.crash - 1 } := by unfold ticked; rw [if_neg h1]
      rw [e1, e2] at HS
      rw [if_neg h1]
      unfold errV at ho HS ⊢
      unfold ptrV at ho
      clear h he hn hp hfo hv hi hst h1 e1 e2 hc hz
      go_enter Tryd.func20, Tryd.ntmps20
      go_wp2_with (first
        | (go_at_call 29; refine ho.mono ?_; rintro r w2 ⟨rfl, n, rfl⟩)
        | (go_at_call 41; ((with_reducible refine (HS.out _).mono ?_); rintro r w3 ⟨rfl, hd3, ht3⟩; have hf3 := hd3.parts.files i Hi.out; have k1 := hf3.cell1; have f1 := hf3.fro 1; simp only at k1 f1; have HD3 := Lib.hid hd3; have HF3 := Lib.hid hf3; clear hd3 hf3)))
      go_ret
      have hN := HF3.out.noSteps
      have hpf : (G.pfs[i]'Hi.out).bytes = (pfAt G i).bytes := by rw [pfAt_eq Hi.out]
      simp only [hpf] at hN
      have hst : Turn (fileOwn (G.ptr i) (G.bvs i) (G.svs i)) w3 (w3.setCell ⟨G.ptr i, 1, none⟩ (.slice none 0 0)) := (Turn.refl _ _).set _ _ (fun _ => .inl rfl)
      have hb : locOk w3 (G.bvs i) (G.bvs i) := .inl rfl
      have hs : locOk w3 (G.svs i) (.slice none 0 0) := .inr (.inl rfl)
      refine ⟨rfl, _, HD3.out.filed Hi.out hN hst hb hs, ?_, .inr ⟨rfl, i, Hfo.out, rfl⟩, fun k hk => ?_⟩
      · refine ((Turn.of_drew n).trans ht3 (fun i _ hh => .inl hh) : Turn (G.own D) w w3).trans hst (fun k _ hh => .inr (.inr (.inr (.inr (.inr ⟨i, Hi.out, hh⟩)))))
      · rcases own_file Hi.out hb hs hk with h1 | h1
        · exact .inl h1
        · have := ht3.size; exact .inr (by simp at this; omega)
  · rw [if_pos hz]
    rw [open_none hz] at ho
    obtain ⟨c, hcc⟩ : ∃ c, openCode G p = c + 1 := ⟨openCode G p - 1, by omega⟩
    rw [hcc] at ho ⊢
    have HD := Lib.hid h
    unfold errV at ho ⊢
    clear h he hn hp hc hcc hz
    go_enter Tryd.func20, Tryd.ntmps20
    go_wp2_with (go_at_call 29; refine ho.mono ?_; rintro r w2 ⟨rfl, n, rfl⟩)
    go_ret
    exact ⟨rfl, G, HD.out.below ((Below.refl _ _).drewN n), Turn.of_drew n, .inl ⟨by omega, .inl rfl⟩, fun k hk => .inl hk⟩

theorem Sync_any {w : World} {D : Nat} {G : DiskG} {E : Nat → Addr} (h : DiskAt w D G) (he : Env w E) (hn : NumsOk G) (hc : G.crash < 4611686018427387904) (p : ByteArray) (hp : p.size < 4294967281) :
    Calls Tryd.prog 9 #[.pointer (some ⟨D, 0, none⟩), .string p] w fun r w' =>
      ∃ v G', r = .returned v ∧ ErrAt w' E v (syncCode G p) "sync".toUTF8 p ∧ DiskAt w' D G' ∧ Turn (G.own D) w w' ∧ Synced G p (syncCode G p) G' ∧ (∀ k, G'.own D k → G.own D k ∨ w.heap.size ≤ k) := by
  have h1 := sync_any h he hn hc p hp
  have h2 := fun W => refused_err ⟨#[115, 121, 110, 99]⟩ p E (syncCode G p) W
  have H1 := Lib.hid h1
  have H2 := Lib.hid h2
  clear h he hn hc hp h1 h2
  go_enter Tryd.func9, Tryd.ntmps9
  go_wp2_with (first
    | (go_at_call 20; ((with_reducible refine H1.out.mono ?_); rintro r w2 ⟨rfl, G', hd, ht, hcr, hnew⟩))
    | (go_at_call 16; ((with_reducible refine (H2.out _).mono ?_); rintro r w3 ⟨v, rfl, hv, hb⟩)))
  go_ret
  exact ⟨_, G', rfl, hv, hd.below hb, ht.trans (Turn.of_below hb : Turn (fun _ => False) _ _) (fun _ _ h => h.elim), hcr, hnew⟩

end Go.Proofs.YtanbmlikfhcpoaaDoor.Disk
