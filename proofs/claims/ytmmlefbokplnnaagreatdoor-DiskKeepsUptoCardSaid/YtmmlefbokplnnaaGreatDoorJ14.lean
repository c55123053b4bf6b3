/-
  The texts DSync, DAppend, DDurable, joined. Own text.
-/
import Derived.Test.YtmmlefbokplnnaaGreatDoorJ13
set_option linter.unusedVariables false
set_option linter.unusedSimpArgs false
namespace Go.Proofs.YtmmlefbokplnnaaGreatDoor.Disk
open Go.RowKit Go Go.Proofs.YtmmlefbokplnnaaGreatDoor.Base Go.Proofs.YtmmlefbokplnnaaGreatDoor.Map

theorem get_mem {α : Type} {l : List (ByteArray × α)} {k : ByteArray} {v : α} (h : Map.get l k = some v) : (k, v) ∈ l := by
  induction l with
  | nil => cases h
  | cons p r ih =>
    unfold Map.get at h
    split at h
    · rename_i hk
      injection h with h
      rw [← hk, ← h]
      exact List.mem_cons_self
    · exact List.mem_cons_of_mem _ (ih h)

theorem fileOf_lt {G : DiskG} (hn : NumsOk G) {p : ByteArray} {i : Nat} (h : fileOf G.gc p = some i) : i < G.pfs.length := by
  unfold fileOf lookFile at h
  cases hl : lookDir G.gc (dirOf p) with
  | none => rw [hl] at h; cases h
  | some x =>
    rw [hl] at h
    exact hn.cur x (lookDir_mem hl).1 _ (get_mem h)

theorem open_file {G : DiskG} {p : ByteArray} (h : openCode G p = 0) : ∃ i, fileOf G.gc p = some i ∧ openV G p = ptrV G.ptr i := by
  cases hf : fileOf G.gc p with
  | none =>
    exfalso
    unfold openCode at h
    rw [hf] at h
    simp at h
    split at h
    · cases h
    · split at h
      · cases h
      · split at h <;> cases h
  | some i => exact ⟨i, rfl, by unfold openV; rw [if_pos h, hf]; rfl⟩

theorem open_none {G : DiskG} {p : ByteArray} (h : openCode G p ≠ 0) : openV G p = .pointer none := by unfold openV; rw [if_neg h]

def pfAt (G : DiskG) (i : Nat) : PF := G.pfs.getD i ⟨[], []⟩
theorem pfAt_eq {G : DiskG} {i : Nat} (h : i < G.pfs.length) : G.pfs[i] = pfAt G i := by simp [pfAt, List.getD, h]

/-- what All tells -/
def allText (G : DiskG) (p : ByteArray) : List Nat := if openCode G p = 0 then (pfAt G ((fileOf G.gc p).getD 0)).bytes else []

set_option maxRecDepth 100000 in
set_option maxHeartbeats 2000000 in
theorem All_any {w : World} {D : Nat} {G : DiskG} {E : Nat → Addr} (h : DiskAt w D G) (he : Env w E) (hn : NumsOk G) (p : ByteArray) (hp : p.size < 4294967281) :
    Calls Tryz.prog 24 #[.pointer (some ⟨D, 0, none⟩), .string p] w fun r w' =>
      ∃ v, r = .returned (.tuple #[.string (strN (allText G p)), v]) ∧ ErrAt w' E v (openCode G p) "read".toUTF8 p ∧ Below w.heap.size w w' := by
  have ho := open_any h he p hp
  by_cases hz : openCode G p = 0
  · obtain ⟨i, hfo, hv⟩ := open_file hz
    have hi := fileOf_lt hn hfo
    have hfile := h.parts.files i hi
    rw [pfAt_eq hi] at hfile
    have e1 : allText G p = (pfAt G i).bytes := by unfold allText; rw [if_pos hz, hfo]; rfl
    rw [e1]
    rw [hz, hv] at ho
    rw [hz]
    unfold errV ptrV at ho
    have c0 : ∀ n, (w.drewN n).cell? ⟨G.ptr i, 0, none⟩ = some (G.bvs i) := fun n => hfile.cell0
    have hcv : ∀ n, (convert 91 9 (G.bvs i)).run Tryz.prog (w.drewN n) = .ok (.string (strN (pfAt G i).bytes)) (w.drewN n) := fun n => conv_own hfile.bytes
    clear h he hn hp hfo hv hi hfile e1
    generalize strN (pfAt G i).bytes = s at hcv ⊢
    generalize G.bvs i = bv at c0 hcv
    go_enter Tryz.func24, Tryz.ntmps24
    go_wp2_with (go_at_call 67; refine ho.mono ?_; rintro r w2 ⟨rfl, n, rfl⟩)
    go_ret2
    exact ⟨_, rfl, .inl ⟨rfl, rfl⟩, (Below.refl _ _).drewN n⟩
  · have e1 : allText G p = [] := by unfold allText; rw [if_neg hz]
    rw [e1]
    rw [open_none hz] at ho
    obtain ⟨c, hc⟩ : ∃ c, openCode G p = c + 1 := ⟨openCode G p - 1, by omega⟩
    rw [hc] at ho ⊢
    have h2 := fun W => refused_err ⟨#[114, 101, 97, 100]⟩ p E (c + 1) W
    have H2 := Lib.hid h2
    unfold errV at ho H2
    clear h he hn hp h2 e1 hc hz
    go_enter Tryz.func24, Tryz.ntmps24
    go_wp2_with (first
      | (go_at_call 67; refine ho.mono ?_; rintro r w2 ⟨rfl, n, rfl⟩)
      | (go_at_call 55; ((with_reducible refine (H2.out _).mono ?_); rintro r w3 ⟨v, rfl, hv, hb⟩)))
    go_ret2
    exact ⟨_, rfl, hv, ((Below.refl _ _).drewN n : Below w.heap.size w _).trans hb⟩

def syncCode (G : DiskG) (p : ByteArray) : Nat := if openCode G p ≠ 0 then openCode G p else if G.crash = 1 then 1 else 0
def Synced (G : DiskG) (p : ByteArray) (c : Nat) (G' : DiskG) : Prop :=
  (c ≠ 0 ∧ Refused G c G') ∨
  (c = 0 ∧ ∃ i, fileOf G.gc p = some i ∧ G' = DiskG.file { G with crash := G.crash - 1 } i ⟨(pfAt G i).bytes, []⟩ (G.bvs i) (.slice none 0 0))

set_option maxRecDepth 100000 in
set_option maxHeartbeats 2000000 in
theorem sync_any {w : World} {D : Nat} {G : DiskG} {E : Nat → Addr} (h : DiskAt w D G) (he : Env w E) (hn : NumsOk G) (hc : G.crash < 9223372036854775808) (p : ByteArray) (hp : p.size < 4294967281) :
    Calls Tryz.prog 66 #[.pointer (some ⟨D, 0, none⟩), .string p] w fun r w' =>
      r = .returned (errV E (syncCode G p)) ∧ ∃ G', DiskAt w' D G' ∧ Turn (G.own D) w w' ∧ Synced G p (syncCode G p) G' ∧ (∀ k, G'.own D k → G.own D k ∨ w.heap.size ≤ k) := by
  have ho := open_any h he p hp
  unfold syncCode
  by_cases hz : openCode G p = 0
  · obtain ⟨i, hfo, hv⟩ := open_file hz
    have hi := fileOf_lt hn hfo
    rw [hz, hv] at ho
    rw [if_neg (by omega)]
    have hst : ∀ n, Calls Tryz.prog 97 #[.pointer (some ⟨D, 0, none⟩)] (w.drewN n) fun e w' => e = .returned (errV E (stepCode G)) ∧ DiskAt w' D (ticked G) ∧ Turn (fun k => k = D) (w.drewN n) w' := fun n =>
      step_any (h.below ((Below.refl _ _).drewN n)) (he.turn (Turn.of_drew (S := fun _ => False) n) (fun _ _ h => h)) hc
    have HN := Lib.hid hn
    have Hi := Lib.hid hi
    have Hfo := Lib.hid hfo
    have HS := Lib.hid hst
    by_cases h1 : G.crash = 1
    · have e1 : stepCode G = 1 := by unfold stepCode; rw [if_pos h1]
      have e2 : ticked G = { G with off := true } := by unfold ticked; rw [if_pos h1]
      rw [e1, e2] at HS
      rw [if_pos h1]
      have H1 := Lib.hid h1
      unfold errV at ho HS ⊢
      unfold ptrV at ho
      clear h he hn hp hfo hv hi hst h1 e1 e2 hc hz
      go_enter Tryz.func66, Tryz.ntmps66
      go_wp2_with (first
        | (go_at_call 67; refine ho.mono ?_; rintro r w2 ⟨rfl, n, rfl⟩)
        | (go_at_call 97; ((with_reducible refine (HS.out _).mono ?_); rintro r w3 ⟨rfl, hd3, ht3⟩)))
      go_ret
      exact ⟨rfl, _, hd3, (Turn.of_drew n).trans ht3 (fun i _ hh => .inl hh), .inl ⟨by decide, .inr ⟨H1.out, rfl, rfl⟩⟩, fun k hk => .inl hk⟩
    · have e1 : stepCode G = 0 := by unfold stepCode; rw [if_neg h1]
      have e2 : ticked G = { G with crash := G.crash - 1 } := by unfold ticked; rw [if_neg h1]
      rw [e1, e2] at HS
      rw [if_neg h1]
      unfold errV at ho HS ⊢
      unfold ptrV at ho
      clear h he hn hp hfo hv hi hst h1 e1 e2 hc hz
      go_enter Tryz.func66, Tryz.ntmps66
      go_wp2_with (first
        | (go_at_call 67; refine ho.mono ?_; rintro r w2 ⟨rfl, n, rfl⟩)
        | (go_at_call 97; ((with_reducible refine (HS.out _).mono ?_); rintro r w3 ⟨rfl, hd3, ht3⟩; have hf3 := hd3.parts.files i Hi.out; have k1 := hf3.cell1; have f1 := hf3.fro 1; simp only at k1 f1; have HD3 := Lib.hid hd3; have HF3 := Lib.hid hf3; clear hd3 hf3)))
      go_ret
      have hN := HF3.out.noSteps
      have hpf : (G.pfs[i]'Hi.out).bytes = (pfAt G i).bytes := by rw [pfAt_eq Hi.out]
      simp only [hpf] at hN
      have hst : Turn (fileOwn (G.ptr i) (G.bvs i) (G.svs i)) w3 (w3.setCell ⟨G.ptr i, 1, none⟩ (.slice none 0 0)) := (Turn.refl _ _).set _ _ (fun _ => .inl rfl)
      have hb : locOk w3 (G.bvs i) (G.bvs i) := .inl rfl
      have hs : locOk w3 (G.svs i) (.slice none 0 0) := .inr (.inl rfl)
      refine ⟨rfl, _, HD3.out.filed Hi.out hN hst hb hs, ?_, .inr ⟨rfl, i, Hfo.out, rfl⟩, fun k hk => ?_⟩
      · refine ((Turn.of_drew n).trans ht3 (fun i _ hh => .inl hh) : Turn (G.own D) w w3).trans hst (fun k _ hh => .inr (.inr (.inr (.inr (.inr ⟨i, Hi.out, hh⟩)))))
      · rcases own_file Hi.out hb hs hk with h1 | h1
        · exact .inl h1
        · have := ht3.size; exact .inr (by simp at this; omega)
  · rw [if_pos hz]
    rw [open_none hz] at ho
    obtain ⟨c, hcc⟩ : ∃ c, openCode G p = c + 1 := ⟨openCode G p - 1, by omega⟩
    have hoc : G.off = true ∨ c + 1 ≠ 1 := by rw [← hcc]; exact openCode_off G p
    rw [hcc] at ho ⊢
    have HD := Lib.hid h
    have HOC := Lib.hid hoc
    clear hoc
    unfold errV at ho ⊢
    clear h he hn hp hc hcc hz
    go_enter Tryz.func66, Tryz.ntmps66
    go_wp2_with (go_at_call 67; refine ho.mono ?_; rintro r w2 ⟨rfl, n, rfl⟩)
    go_ret
    exact ⟨rfl, G, HD.out.below ((Below.refl _ _).drewN n), Turn.of_drew n, .inl ⟨by omega, .inl ⟨rfl, HOC.out⟩⟩, fun k hk => .inl hk⟩

theorem Sync_any {w : World} {D : Nat} {G : DiskG} {E : Nat → Addr} (h : DiskAt w D G) (he : Env w E) (hn : NumsOk G) (hc : G.crash < 9223372036854775808) (p : ByteArray) (hp : p.size < 4294967281) :
    Calls Tryz.prog 23 #[.pointer (some ⟨D, 0, none⟩), .string p] w fun r w' =>
      ∃ v G', r = .returned v ∧ ErrAt w' E v (syncCode G p) "sync".toUTF8 p ∧ DiskAt w' D G' ∧ Turn (G.own D) w w' ∧ Synced G p (syncCode G p) G' ∧ (∀ k, G'.own D k → G.own D k ∨ w.heap.size ≤ k) := by
  have h1 := sync_any h he hn hc p hp
  have h2 := fun W => refused_err ⟨#[115, 121, 110, 99]⟩ p E (syncCode G p) W
  have H1 := Lib.hid h1
  have H2 := Lib.hid h2
  clear h he hn hc hp h1 h2
  go_enter Tryz.func23, Tryz.ntmps23
  go_wp2_with (first
    | (go_at_call 66; ((with_reducible refine H1.out.mono ?_); rintro r w2 ⟨rfl, G', hd, ht, hcr, hnew⟩))
    | (go_at_call 55; ((with_reducible refine (H2.out _).mono ?_); rintro r w3 ⟨v, rfl, hv, hb⟩)))
  go_ret
  exact ⟨_, G', rfl, hv, hd.below hb, ht.trans (Turn.of_below hb : Turn (fun _ => False) _ _) (fun _ _ h => h.elim), hcr, hnew⟩

end Go.Proofs.YtmmlefbokplnnaaGreatDoor.Disk

namespace Go.Proofs.YtmmlefbokplnnaaGreatDoor.Disk
open Go.RowKit Go Go.Proofs.YtmmlefbokplnnaaGreatDoor.Base Go.Proofs.YtmmlefbokplnnaaGreatDoor.Map

def appendCode (G : DiskG) (p : ByteArray) (n : Nat) : Nat :=
  if openCode G p ≠ 0 then openCode G p else if G.cap < G.used + n then 7 else if G.crash = 1 then 1 else 0
def Appended (G : DiskG) (p : ByteArray) (t : List Nat) (c : Nat) (G' : DiskG) : Prop :=
  (c ≠ 0 ∧ Refused G c G') ∨
  (c = 0 ∧ ∃ i bv sv, fileOf G.gc p = some i ∧ G' = { DiskG.file { G with crash := G.crash - 1 } i ((pfAt G i).add t) bv sv with used := G.used + t.length })

set_option maxRecDepth 100000 in
set_option maxHeartbeats 4000000 in
theorem extend_any {w : World} {D : Nat} {G : DiskG} {E : Nat → Addr} (h : DiskAt w D G) (he : Env w E) (hn : NumsOk G) (hc : G.crash < 9223372036854775808) (p : ByteArray) (hp : p.size < 4294967281)
    (ao : Option Addr) (len cap : Nat) (ps : Nat → ByteArray) (hP : PartsAt w ao len ps) (hpo : ∀ b off, ao = some ⟨b, off, none⟩ → ¬ G.own D b) (hll : len < 1099511627776) (hT : (cat ps len).length < 1099511627776)
    (hcap : G.cap < 1099511627776) (hused : G.used < 1152921504606846976) (hfs : ∀ i, i < G.pfs.length → (pfAt G i).bytes.length < 549755813888 ∧ (pfAt G i).steps.length < 1099511627776 ∧ ∀ k r, (pfAt G i).steps.reverse = .add k :: r → k < 1099511627776) (hT2 : (cat ps len).length < 549755813888) :
    Calls Tryz.prog 65 #[.pointer (some ⟨D, 0, none⟩), .string p, .slice ao len cap] w fun r w' =>
      r = .returned (errV E (appendCode G p (cat ps len).length)) ∧ ∃ G', DiskAt w' D G' ∧ Turn (G.own D) w w' ∧ Appended G p (cat ps len) (appendCode G p (cat ps len).length) G' ∧ (∀ k, G'.own D k → G.own D k ∨ w.heap.size ≤ k) := by
  have ho := open_any h he p hp
  unfold appendCode
  by_cases hz : openCode G p = 0
  · obtain ⟨i, hfo, hv⟩ := open_file hz
    have hi := fileOf_lt hn hfo
    rw [hz, hv] at ho
    rw [if_neg (by omega)]
    have hst : ∀ n, Calls Tryz.prog 97 #[.pointer (some ⟨D, 0, none⟩)] (w.drewN n) fun e w' => e = .returned (errV E (stepCode G)) ∧ DiskAt w' D (ticked G) ∧ Turn (fun k => k = D) (w.drewN n) w' := fun n =>
      step_any (h.below ((Below.refl _ _).drewN n)) (he.turn (Turn.of_drew (S := fun _ => False) n) (fun _ _ h => h)) hc
    have c3 : ∀ n, (w.drewN n).cell? ⟨D, 3, none⟩ = some (.int .i64 (G.cap : Int)) := fun n => h.cell 3
    have c4 : ∀ n, (w.drewN n).cell? ⟨D, 4, none⟩ = some (.int .i64 (G.used : Int)) := fun n => h.cell 4
    have g7 : ∀ n, (w.drewN n).cell? ⟨6, 0, none⟩ = some (errV E 7) := fun n => he.space
    unfold errV at g7
    obtain ⟨T, hTT⟩ : ∃ T, (cat ps len).length = T := ⟨_, rfl⟩
    rw [hTT] at hT hT2 ⊢
    have HTT := Lib.hid hTT
    have HN := Lib.hid hn
    have Hi := Lib.hid hi
    have Hfo := Lib.hid hfo
    have HS := Lib.hid hst
    have HP := Lib.hid hP
    have HPO := Lib.hid hpo
    have HFS := Lib.hid hfs
    have HD := Lib.hid h
    have hsubi : IntKind.i64.wrap ((G.cap : Int) - (G.used : Int)) = (G.cap : Int) - (G.used : Int) := IntWalk.i64_in _ (by omega)
    unfold ptrV at ho
    obtain ⟨R, hR⟩ : ∃ R, (if G.cap < G.used + T then 7 else if G.crash = 1 then 1 else 0) = R := ⟨_, rfl⟩
    rw [hR]
    have HR := Lib.hid hR
    unfold errV at ho
    clear h he hn hp hfo hv hi hst hc hz hP hpo hfs hTT hR
    go_enter Tryz.func65, Tryz.ntmps65
    go_wp2_with (go_at_call 67; refine ho.mono ?_; rintro r w2 ⟨rfl, n, rfl⟩)
    go_loopg [24, 9] len (fun r i s wr => ∃ (j S : Nat), Hid (j + r = len) ∧ j ≤ len ∧ i = .int .i64 (j : Int) ∧ s = .int .i64 (S : Int) ∧ Hid (S = (cat ps j).length) ∧ wr = w.drewN n)
    case atStart => exact ⟨0, 0, Nat.zero_add _, Nat.zero_le _, rfl, rfl, rfl, rfl⟩
    case round =>
      obtain ⟨j, S, hE, hj, rfl, rfl, HSS, rfl⟩ := hrel
      by_cases hlt : j < len
      · obtain ⟨pb, off, rfl, hpb, hcell⟩ := HP.out j hlt
        have hcell' : (w.drewN n).cell? ⟨pb, off + j, none⟩ = some (.string (ps j)) := hcell
        have h3 : S + (ps j).size = (cat ps (j + 1)).length := by rw [HSS.out]; simp [cat, nums_length]
        have h4 := cat_len_le ps (j + 1) len hlt
        have h5 : S + (ps j).size ≤ T := by rw [h3, ← HTT.out]; exact h4
        obtain ⟨q, hq⟩ : ∃ q, q = ps j := ⟨_, rfl⟩
        rw [← hq] at hcell' h3 h5
        have H3 := Lib.hid h3
        clear hcell hq h3 h4
        go_wp2_with fail
        go_roundg (len - (j + 1))
        case measure => have := hE.out; omega
        case rel => exact ⟨j + 1, S + q.size, by show _ = _; omega, by omega, by go_num, by go_num, H3.out, rfl⟩
      · obtain rfl : j = len := by omega
        have hST : S = T := by rw [HSS.out, HTT.out]
        subst hST
        clear hlt hE hj HSS
        go_wp2_with fail
        go_quiet (fail)
        by_cases hsp : G.cap < G.used + S
        · have hspi : ((G.cap : Int) - (G.used : Int) < (S : Int)) := by omega
          have hr7 : R = 7 := by rw [← HR.out, if_pos hsp]
          subst hr7
          go_wp2
          go_ret
          exact ⟨rfl, G, HD.out.below ((Below.refl _ _).drewN (n + nq)), Turn.of_drew (n + nq), .inl ⟨by decide, .inl ⟨rfl, .inr (by decide)⟩⟩, fun k hk => .inl hk⟩
        · have hspi : ¬ ((G.cap : Int) - (G.used : Int) < (S : Int)) := by omega
          by_cases h1 : G.crash = 1
          · have hr1 : R = 1 := by rw [← HR.out, if_neg hsp, if_pos h1]
            have e1 : stepCode G = 1 := by unfold stepCode; rw [if_pos h1]
            have e2 : ticked G = { G with off := true } := by unfold ticked; rw [if_pos h1]
            rw [e1, e2] at HS
            subst hr1
            have H1 := Lib.hid h1
            unfold errV at HS
            clear h1 e1 e2
            go_wp2_with (go_at_call 97; ((refine (HS.out (n + nq)).mono ?_); rintro r w3 ⟨rfl, hd3, ht3⟩))
            go_ret
            exact ⟨rfl, _, hd3, (Turn.of_drew (n + nq)).trans ht3 (fun i _ hh => .inl hh), .inl ⟨by decide, .inr ⟨H1.out, rfl, rfl⟩⟩, fun k hk => .inl hk⟩
          · have hr0 : R = 0 := by rw [← HR.out, if_neg hsp, if_neg h1]
            have e1 : stepCode G = 0 := by unfold stepCode; rw [if_neg h1]
            have e2 : ticked G = { G with crash := G.crash - 1 } := by unfold ticked; rw [if_neg h1]
            rw [e1, e2] at HS
            subst hr0
            unfold errV at HS
            clear h1 e1 e2
            have hext : ∀ w3, DiskAt w3 D { G with crash := G.crash - 1 } → Turn (fun k => k = D) (w.drewN (n + nq)) w3 → Calls Tryz.prog 98 #[.pointer (some ⟨G.ptr i, 0, none⟩), .slice ao j cap] w3 fun r w4 => r = .returned (.tuple #[]) ∧ ∃ bv sv, ∃ G', G' = DiskG.file { G with crash := G.crash - 1 } i ((pfAt G i).add (cat ps j)) bv sv ∧ DiskAt w4 D G' ∧ Turn (fileOwn (G.ptr i) (G.bvs i) (G.svs i)) w3 w4 ∧ (∀ k, G'.own D k → G.own D k ∨ w.heap.size ≤ k) := fun w3 hd3 ht3 => by
              have hf3 := hd3.parts.files i Hi.out
              have hpf : G.pfs[i]'Hi.out = pfAt G i := pfAt_eq Hi.out
              simp only [hpf] at hf3
              obtain ⟨q1, q2, q3⟩ := HFS.out i Hi.out
              have hown3 : ∀ b off, ao = some ⟨b, off, none⟩ → ¬ fileOwn (G.ptr i) (G.bvs i) (G.svs i) b := fun b off hb hh => HPO.out b off hb (.inr (.inr (.inr (.inr (.inr ⟨i, Hi.out, hh⟩)))))
              have hP3 : PartsAt w3 ao j ps := fun q hq => by
                obtain ⟨pb, off, h1, h2, h3⟩ := HP.out q hq
                exact ⟨pb, off, h1, Nat.lt_of_lt_of_le h2 ht3.size, ht3.cell (w := w.drewN (n + nq)) h3 (fun hh => HPO.out pb off h1 (.inl hh))⟩
              refine (fileExtend_any (pfAt G i) (G.ptr i) (G.bvs i) (G.svs i) w3 hf3 ao j cap ps hP3 hown3 (by rw [HTT.out]; omega) q2 hll q3).mono fun r w4 hh => ?_
              obtain ⟨hr, bv, sv, hf4, ht4, hb, hs⟩ := hh
              have lb : locOk w3 (G.bvs i) bv := by rcases hb with hb | hb; exact .inl hb; exact .inr (.inr hb)
              have ls : locOk w3 (G.svs i) sv := by rcases hs with hs | hs; exact .inl hs; exact .inr (.inr hs)
              refine ⟨hr, bv, sv, _, rfl, hd3.filed Hi.out hf4 ht4 lb ls, ht4, fun k hk => ?_⟩
              rcases own_file Hi.out lb ls hk with h1 | h1
              · exact .inl h1
              · have := ht3.size; exact .inr (by simp at this; omega)
            have HX := Lib.hid hext
            clear hext
            have husum : wrap64 ((G.used : Int) + (S : Int)) = (G.used : Int) + (S : Int) := by simp only [wrap64]; omega
            go_wp2_with (first
              | (go_at_call 97; ((refine (HS.out (n + nq)).mono ?_); rintro r w3 ⟨rfl, hd3, ht3⟩))
              | (go_at_call 98; ((with_reducible refine (HX.out _ hd3 ht3).mono ?_); rintro r w4 ⟨rfl, bv, sv, G', hG', hd4, ht4, hnew⟩; have k4 : w4.cell? ⟨D, 4, none⟩ = some (.int .i64 (G.used : Int)) := (by (have := hd4.cell 4; subst hG'; exact this)); have f4 := hd4.fro 4; have HD4 := Lib.hid hd4; have HG' := Lib.hid hG'; clear hd4 hG')))
            go_ret
            have hset := HD4.out.set 4 (.int .i64 ((G.used : Int) + (S : Int))) { G' with used := G.used + S } (by have := HG'.out; subst this; simp [DiskG.cells, DiskG.file, topV]) (fun hp => hp.with rfl rfl rfl rfl rfl rfl rfl rfl)
            refine ⟨rfl, _, hset, ?_, .inr ⟨rfl, i, bv, sv, Hfo.out, by rw [HG'.out, HTT.out]⟩, fun k hk => hnew k hk⟩
            have t1 : Turn (G.own D) w w3 := (Turn.of_drew (n + nq)).trans ht3 (fun i _ hh => .inl hh)
            exact (t1.trans ht4 (fun k _ hh => .inr (.inr (.inr (.inr (.inr ⟨i, Hi.out, hh⟩)))))).set _ _ (fun _ => .inl rfl)
  · rw [if_pos hz]
    rw [open_none hz] at ho
    obtain ⟨c, hcc⟩ : ∃ c, openCode G p = c + 1 := ⟨openCode G p - 1, by omega⟩
    have hoc : G.off = true ∨ c + 1 ≠ 1 := by rw [← hcc]; exact openCode_off G p
    rw [hcc] at ho ⊢
    have HD := Lib.hid h
    have HOC := Lib.hid hoc
    clear hoc
    unfold errV at ho ⊢
    clear h he hn hp hc hcc hz hP hpo hfs
    go_enter Tryz.func65, Tryz.ntmps65
    go_wp2_with (go_at_call 67; refine ho.mono ?_; rintro r w2 ⟨rfl, n, rfl⟩)
    go_ret
    exact ⟨rfl, G, HD.out.below ((Below.refl _ _).drewN n), Turn.of_drew n, .inl ⟨by omega, .inl ⟨rfl, HOC.out⟩⟩, fun k hk => .inl hk⟩

theorem Append_any {w : World} {D : Nat} {G : DiskG} {E : Nat → Addr} (h : DiskAt w D G) (he : Env w E) (hn : NumsOk G) (hc : G.crash < 9223372036854775808) (p : ByteArray) (hp : p.size < 4294967281)
    (ao : Option Addr) (len cap : Nat) (ps : Nat → ByteArray) (hP : PartsAt w ao len ps) (hpo : ∀ b off, ao = some ⟨b, off, none⟩ → ¬ G.own D b) (hll : len < 1099511627776) (hT : (cat ps len).length < 549755813888)
    (hcap : G.cap < 1099511627776) (hused : G.used < 1152921504606846976) (hfs : ∀ i, i < G.pfs.length → (pfAt G i).bytes.length < 549755813888 ∧ (pfAt G i).steps.length < 1099511627776 ∧ ∀ k r, (pfAt G i).steps.reverse = .add k :: r → k < 1099511627776) :
    Calls Tryz.prog 22 #[.pointer (some ⟨D, 0, none⟩), .string p, .slice ao len cap] w fun r w' =>
      ∃ v G', r = .returned v ∧ ErrAt w' E v (appendCode G p (cat ps len).length) "append".toUTF8 p ∧ DiskAt w' D G' ∧ Turn (G.own D) w w' ∧ Appended G p (cat ps len) (appendCode G p (cat ps len).length) G' ∧ (∀ k, G'.own D k → G.own D k ∨ w.heap.size ≤ k) := by
  have h1 := extend_any h he hn hc p hp ao len cap ps hP hpo hll (by omega) hcap hused hfs hT
  have h2 := fun W => refused_err ⟨#[97, 112, 112, 101, 110, 100]⟩ p E (appendCode G p (cat ps len).length) W
  have H1 := Lib.hid h1
  have H2 := Lib.hid h2
  clear h he hn hc hp h1 h2 hP hpo hll hT hcap hused hfs
  go_enter Tryz.func22, Tryz.ntmps22
  go_wp2_with (first
    | (go_at_call 65; ((with_reducible refine H1.out.mono ?_); rintro r w2 ⟨rfl, G', hd, ht, hcr, hnew⟩))
    | (go_at_call 55; ((with_reducible refine (H2.out _).mono ?_); rintro r w3 ⟨v, rfl, hv, hb⟩)))
  go_ret
  exact ⟨_, G', rfl, hv, hd.below hb, ht.trans (Turn.of_below hb : Turn (fun _ => False) _ _) (fun _ _ h => h.elim), hcr, hnew⟩

end Go.Proofs.YtmmlefbokplnnaaGreatDoor.Disk

namespace Go.Proofs.YtmmlefbokplnnaaGreatDoor.Disk
open Go.RowKit Go Go.Proofs.YtmmlefbokplnnaaGreatDoor.Base Go.Proofs.YtmmlefbokplnnaaGreatDoor.Map

/-- names steps, one after the other -/
def AppAll : List NStep → TreeG → TreeG → Prop
  | [], g, g' => g' = g
  | s :: r, g, g' => ∃ gm, Applied s g gm ∧ AppAll r gm g'

theorem AppAll.snoc {l : List NStep} {s : NStep} {g gm g' : TreeG} (h : AppAll l g gm) (hs : Applied s gm g') : AppAll (l ++ [s]) g g' := by
  induction l generalizing g with
  | nil => cases h; exact ⟨g', hs, rfl⟩
  | cons a r ih => obtain ⟨q, h1, h2⟩ := h; exact ⟨q, h1, ih h2⟩

/-- the durable tree was written -/
theorem DiskAt.wroteD {w w' : World} {D : Nat} {G : DiskG} {g' : TreeG} (h : DiskAt w D G) (hw : Wrote w w' G.ptr D 1 G.cells 63 G.gd g') : DiskAt w' D { G with gd := g' } := by
  obtain ⟨n1, n2, n3, n4, n5⟩ := h.parts.notD h.kind
  have hgc : ∀ b ∈ G.gc.blocks, ¬ (b = D ∨ b ∈ G.gd.blocks) := fun b hb hh => by
    rcases hh with hh | hh
    · exact n1 b hb hh
    · exact h.parts.trees b hb hh
  refine ⟨?_, ⟨h.parts.cur.of_heap fun b hb => hw.turn.block b (h.parts.cur.lt b hb) (hgc b hb), hw.tree, fun b hb hb2 => ?_, ?_, fun x hx => ?_, fun i hi => ?_, h.parts.inj, h.parts.bytes, h.parts.rows⟩⟩
  · rw [hw.holds]; rfl
  · rcases hw.new b hb2 with h1 | h1
    · exact h.parts.trees b hb h1
    · have := h.parts.cur.lt b hb; omega
  · refine row_turn h.parts.row hw.turn fun k hk hh => ?_
    rcases hh with hh | hh
    · exact n3 k hk hh
    · exact (row_kind h.parts.row hk).noMap (h.parts.dur.maps k hh)
  · refine (h.parts.steps x hx).of_heap fun b hb => hw.turn.block b ((h.parts.steps x hx).lt b hb) fun hh => ?_
    rcases hh with hh | hh
    · exact n4 x hx b hb hh
    · rcases (h.parts.steps x hx).kinds b hb with h1 | h1 <;> exact h1.noMap (h.parts.dur.maps b hh)
  · refine (h.parts.files i hi).turn hw.turn fun k hk hh => ?_
    rcases hh with hh | hh
    · exact n5 i hi k hk hh
    · rcases (h.parts.files i hi).kinds hk with h1 | h1 | h1 <;> exact h1.noMap (h.parts.dur.maps k hh)

def DiskG.nsteps (G : DiskG) : List NStep := G.steps.map (·.s)

set_option maxRecDepth 100000 in
set_option maxHeartbeats 4000000 in
theorem makeDurable_any {w : World} {D : Nat} {G : DiskG} {E : Nat → Addr} (h : DiskAt w D G) (he : Env w E) (hown : ∀ k, k < 8 → ¬ G.own D k) (n : Nat) (hn : n ≤ G.steps.length) (hlen : G.steps.length < 1099511627776)
    (hfit : ∀ j (hj : j < G.steps.length) gm, AppAll (G.nsteps.take j) G.gd gm → Fits (G.steps[j]'hj).s gm) :
    Calls Tryz.prog 44 #[.pointer (some ⟨D, 0, none⟩), .int .i64 (n : Int)] w fun r w' =>
      r = .returned (.tuple #[]) ∧ ∃ gd', AppAll (G.nsteps.take n) G.gd gd' ∧ DiskAt w' D { G with gd := gd' } ∧ Turn (fun k => k = D ∨ k ∈ G.gd.blocks) w w' ∧ (∀ b ∈ gd'.blocks, b ∈ G.gd.blocks ∨ w.heap.size ≤ b) := by
  obtain ⟨ad, cap, hnv, hcap⟩ := row_len h.parts.row
  have c2 : w.cell? ⟨D, 2, none⟩ = some (.slice ad G.steps.length cap) := by rw [h.cell 2, ← hnv]; rfl
  have hrow := h.parts.row
  rw [hnv] at hrow
  have hcell : ∀ j (hj : j < G.steps.length), ∃ g, ad = some ⟨g, 0, none⟩ ∧ g < w.heap.size ∧ w.cell? ⟨g, j, none⟩ = some (G.steps[j]'hj).v ∧ isK w g 126 := fun j hj => by
    rcases hrow.2 with ⟨_, h0⟩ | ⟨g, cap', cur, h1, _, h2, _⟩
    · omega
    · injection h1 with h1
      subst h1
      refine ⟨g, rfl, (Array.getElem?_eq_some_iff.1 h2).1, ?_, ⟨_, _, h2⟩⟩
      have := hrow.cells (g := g) rfl j (G.steps[j]'hj).v (by rw [List.getElem?_map, List.getElem?_eq_getElem hj]; rfl)
      rwa [Go.WideShapes.add_plain, Nat.zero_add] at this
  obtain ⟨N, hN⟩ : ∃ N, G.steps.length = N := ⟨_, rfl⟩
  have had : ad = none → N = 0 ∧ cap = 0 := fun hh => by
    subst hh
    rcases hrow.2 with ⟨h1, h0⟩ | ⟨g, cap', cur, h1, _⟩
    · injection h1 with _ _ h3; exact ⟨by omega, h3⟩
    · cases h1
  have HN := Lib.hid hN
  have HC := Lib.hid hcell
  have HF := Lib.hid hfit
  have HD := Lib.hid h
  have HE := Lib.hid he
  have HO := Lib.hid hown
  rw [hN] at c2 hlen hn hcap
  have hnc : n ≤ cap := by omega
  have Hnc := Lib.hid hnc
  clear h he hown hnv hrow hcell hN hfit
  cases ad with
  | none =>
    obtain ⟨h1, h2⟩ := had rfl
    have hn0 : n = 0 := by omega
    subst hn0 h2
    go_enter Tryz.func44, Tryz.ntmps44
    go_wp2_with fail
    refine wp_loop_rounds 1 ?_
    rw [rounds_succ]
    go_wp2
    go_end0
    exact ⟨rfl, _, rfl, HD.out, Turn.refl _ _, fun b hb => .inl hb⟩
  | some a =>
    go_enter Tryz.func44, Tryz.ntmps44
    go_wp2_with fail
    go_loopg [13] n (fun r i wr => ∃ (j : Nat) (gd' : TreeG), Hid (j + r = n) ∧ j ≤ n ∧ i = .int .i64 (j : Int) ∧ Hid (AppAll (G.nsteps.take j) G.gd gd') ∧ Hid (DiskAt wr D { G with gd := gd' }) ∧ Hid (Turn (fun k => k = D ∨ k ∈ G.gd.blocks) w wr) ∧ Hid (∀ b ∈ gd'.blocks, b ∈ G.gd.blocks ∨ w.heap.size ≤ b))
    case atStart => exact ⟨0, G.gd, Nat.zero_add _, Nat.zero_le _, rfl, rfl, HD.out, Turn.refl _ _, fun b hb => .inl hb⟩
    case round =>
      obtain ⟨j, gd', hE, hj, rfl, hap, hd, ht, hbl⟩ := hrel
      by_cases hlt : j < n
      · have hjl : j < G.steps.length := by rw [HN.out]; omega
        obtain ⟨g, hag, hgl, hgc, hgk⟩ := HC.out j hjl
        injection hag with hag
        subst hag
        have hx := hd.out.parts.steps (G.steps[j]'hjl) (List.getElem_mem hjl)
        obtain ⟨x, hxe⟩ : ∃ x, G.steps[j]'hjl = x := ⟨_, rfl⟩
        rw [hxe] at hx hgc
        have hfit := HF.out j hjl gd' hap.out
        rw [hxe] at hfit
        have hgc' : wr.cell? ⟨g, j, none⟩ = some x.v := ht.out.cell hgc (fun hh => by
          rcases hh with hh | hh
          · exact hgk.ne HD.out.kind (by decide) hh
          · exact hgk.noMap (HD.out.parts.dur.maps _ hh))
        have henv : Env wr E := HE.out.turn ht.out (fun k hk hh => HO.out k hk (by rcases hh with hh | hh; exact .inl hh; exact .inr (.inr (.inl hh))))
        have hvv : ∃ gf lb, x.v = .func (.func gf) #[] lb ∧ (∀ args w, (callFunc gf args).run Tryz.prog w = .ok (.enter gf args) w) := by
          obtain ⟨gf, lb, hv, hen, _⟩ := step_applies hx hd.out.parts.dur D 1 _ 63 ⟨hd.out.block, rfl⟩ hfit henv.max (fun e => HO.out gMax (by decide) (.inl e.symm))
          exact ⟨gf, lb, hv, hen⟩
        obtain ⟨gf, lb, hv, hen⟩ := hvv
        rw [hv] at hgc'
        have hcl : ∀ w2, Below wr.heap.size wr w2 → Calls Tryz.prog gf (#[.pointer (some ⟨D, 1, none⟩)] ++ lb) w2 fun r w' => r = .returned (.tuple #[]) ∧ ∃ g', Applied x.s gd' g' ∧ Wrote w2 w' G.ptr D 1 (DiskG.cells { G with gd := gd' }) 63 gd' g' := fun w2 hb2 => by
          have hd2 := hd.out.below hb2
          obtain ⟨gf', lb', hv', _, hc'⟩ := step_applies (hx.of_heap fun b hb => hb2.block b (hx.lt b hb)) hd2.parts.dur D 1 _ 63 ⟨hd2.block, rfl⟩ hfit (henv.turn (Turn.of_below (S := fun _ => False) hb2) (fun _ _ h => h)).max (fun e => HO.out gMax (by decide) (.inl e.symm))
          rw [hv] at hv'
          injection hv' with hv1 hv2 hv3
          injection hv1 with hv1
          subst hv1 hv3
          exact hc'
        have hsf : ∀ (a : Addr) (W : World), (store a (.func (.func gf) #[] lb)).run Tryz.prog W = stored Tryz.prog W a (.func (.func gf) #[] lb) .plain := fun a W => run_store Tryz.prog W a _ .plain rfl
        have HCL := Lib.hid hcl
        have HXE := Lib.hid hxe
        clear hcl hx hfit henv hv hgc hxe hgk
        go_wp2_with fail
        obtain ⟨wc, hwc⟩ : ∃ wc, wc = wr.alloc (.cells #[.func (.func gf) #[] lb] 126) := ⟨_, rfl⟩
        rw [← hwc]
        have hbc : Below wr.heap.size wr wc.drew := by rw [hwc]; exact (below_alloc _ _).drew
        have hbx : wc.drew.cell? ⟨wr.heap.size, 0, none⟩ = some (.func (.func gf) #[] lb) := by rw [hwc]; exact World.cell?_alloc_new _ _ _ _
        have HBC := Lib.hid hbc
        clear hbc hwc hgc'
        refine wp_region_still_tail 5 (by kernel_rfl) (by kernel_rfl) ?_
        simp only [List.take_succ_cons, List.take_zero, List.drop_succ_cons, List.drop_zero]
        change wpStill _ _ wc.drew _ _ _
        repeat still_step
        refine wpStill_nil ?_
        change wpList _ _ _ _ _ wc.drew
        go_wp2_with (go_at_fn gf; ((refine (HCL.out _ HBC.out).mono ?_); rintro r w3 ⟨rfl, g', hap', hw3⟩))
        go_roundg (n - (j + 1))
        case measure => have := hE.out; omega
        case rel =>
          have hd3 := (hd.out.below HBC.out).wroteD hw3
          have hs1 := ht.out.size
          have hs2 := HBC.out.size
          refine ⟨j + 1, g', by show _ = _; have := hE.out; omega, by omega, by go_num, ?_, hd3, ?_, ?_⟩
          · have e : G.nsteps.take (j + 1) = G.nsteps.take j ++ [x.s] := by
              have hjn : j < G.nsteps.length := by unfold DiskG.nsteps; simpa using hjl
              rw [List.take_succ_eq_append_getElem hjn]
              congr 2
              simp only [DiskG.nsteps, List.getElem_map, HXE.out]
            show AppAll _ _ _
            rw [e]
            exact hap.out.snoc hap'
          · refine ht.out.trans (S' := fun k => k = D ∨ k ∈ gd'.blocks) ((Turn.of_below HBC.out).trans hw3.turn (fun _ _ h => h)) ?_
            intro k hk hh
            rcases hh with hh | hh
            · exact .inl hh
            · rcases hbl.out k hh with h1 | h1
              · exact .inr h1
              · omega
          · intro b hb
            rcases hw3.new b hb with h1 | h1
            · exact hbl.out b h1
            · exact .inr (by omega)
      · obtain rfl : j = n := by omega
        clear hlt hE
        go_wp2
        go_end0
        exact ⟨rfl, gd', hap.out, hd.out, ht.out, hbl.out⟩

def syncNamesCode (G : DiskG) : Nat := if G.off then 1 else if G.crash = 1 then 1 else 0
def SyncedNames (G : DiskG) (c : Nat) (G' : DiskG) : Prop :=
  (c ≠ 0 ∧ Refused G c G') ∨
  (c = 0 ∧ ∃ gd', AppAll G.nsteps G.gd gd' ∧ G' = { G with crash := G.crash - 1, gd := gd', steps := [], nv := .slice none 0 0 })

theorem DiskAt.noNames {w : World} {D : Nat} {G : DiskG} (h : DiskAt w D G) : DiskAt (w.setCell ⟨D, 2, none⟩ (.slice none 0 0)) D { G with steps := [], nv := .slice none 0 0 } :=
  h.set 2 (.slice none 0 0) _ rfl (fun hp => ⟨hp.cur, hp.dur, hp.trees, World.ownsRow_nil _ _ _ _, fun x hx => (by cases hx), hp.files, hp.inj, hp.bytes, hp.rows⟩)

set_option maxRecDepth 100000 in
set_option maxHeartbeats 2000000 in
theorem syncNames_any {w : World} {D : Nat} {G : DiskG} {E : Nat → Addr} (h : DiskAt w D G) (he : Env w E) (hc : G.crash < 9223372036854775808) (hown : ∀ k, k < 8 → ¬ G.own D k) (hlen : G.steps.length < 1099511627776)
    (hfit : ∀ j (hj : j < G.steps.length) gm, AppAll (G.nsteps.take j) G.gd gm → Fits (G.steps[j]'hj).s gm) :
    Calls Tryz.prog 64 #[.pointer (some ⟨D, 0, none⟩)] w fun r w' =>
      r = .returned (errV E (syncNamesCode G)) ∧ ∃ G', DiskAt w' D G' ∧ Turn (G.own D) w w' ∧ SyncedNames G (syncNamesCode G) G' ∧ (∀ k, G'.own D k → G.own D k ∨ w.heap.size ≤ k) := by
  have hoff := off_any h
  have hst := step_any h he hc
  have g0 := he.off
  unfold errV at g0
  unfold syncNamesCode
  have HD := Lib.hid h
  cases ho : G.off
  · rw [ho] at hoff
    rw [if_neg (by decide)]
    by_cases h1 : G.crash = 1
    · have e1 : stepCode G = 1 := by unfold stepCode; rw [if_pos h1]
      have e2 : ticked G = { G with off := true } := by unfold ticked; rw [if_pos h1]
      rw [e1, e2] at hst
      rw [if_pos h1]
      have H1 := Lib.hid h1
      have HS := Lib.hid hst
      unfold errV at HS ⊢
      clear h he hc hown hlen hfit hst h1 e1 e2 ho
      go_enter Tryz.func64, Tryz.ntmps64
      go_wp2_with (first | (go_at_call 16; refine hoff.mono ?_; rintro r w2 ⟨rfl, rfl⟩) | (go_at_call 97; ((with_reducible refine HS.out.mono ?_); rintro r w3 ⟨rfl, hd3, ht3⟩)))
      go_ret
      exact ⟨rfl, _, hd3, ht3.mono (fun i _ hh => .inl hh), .inl ⟨by decide, .inr ⟨H1.out, rfl, rfl⟩⟩, fun k hk => .inl hk⟩
    · have e1 : stepCode G = 0 := by unfold stepCode; rw [if_neg h1]
      have e2 : ticked G = { G with crash := G.crash - 1 } := by unfold ticked; rw [if_neg h1]
      rw [e1, e2] at hst
      rw [if_neg h1]
      have hmd : ∀ w3, DiskAt w3 D { G with crash := G.crash - 1 } → Turn (fun k => k = D) w w3 → Calls Tryz.prog 44 #[.pointer (some ⟨D, 0, none⟩), .int .i64 (G.steps.length : Int)] w3 fun r w' =>
          r = .returned (.tuple #[]) ∧ ∃ gd', AppAll (G.nsteps.take G.steps.length) G.gd gd' ∧ DiskAt w' D { G with crash := G.crash - 1, gd := gd' } ∧ Turn (fun k => k = D ∨ k ∈ G.gd.blocks) w3 w' ∧ (∀ b ∈ gd'.blocks, b ∈ G.gd.blocks ∨ w3.heap.size ≤ b) := fun w3 hd3 ht3 =>
        makeDurable_any hd3 (he.turn ht3 (fun k hk hh => hown k hk (.inl hh))) hown G.steps.length (Nat.le_refl _) hlen hfit
      have HMD := Lib.hid hmd
      have HS := Lib.hid hst
      unfold errV at HS ⊢
      have hnl : G.nsteps.take G.steps.length = G.nsteps := by rw [List.take_of_length_le]; unfold DiskG.nsteps; simp
      have HNL := Lib.hid hnl
      obtain ⟨ad, cap, hnv, _⟩ := row_len h.parts.row
      have HNV := Lib.hid hnv
      clear h he hc hown hlen hfit hst h1 e1 e2 ho hmd hnl hnv
      go_enter Tryz.func64, Tryz.ntmps64
      go_wp2_with (first
        | (go_at_call 16; refine hoff.mono ?_; rintro r w2 ⟨rfl, rfl⟩)
        | (go_at_call 97; ((with_reducible refine HS.out.mono ?_); rintro r w3 ⟨rfl, hd3, ht3⟩; have k2 : w3.cell? ⟨D, 2, none⟩ = some (.slice ad G.steps.length cap) := (by rw [hd3.cell 2, ← HNV.out]; rfl); have HD3 := Lib.hid hd3; clear hd3))
        | (go_at_call 44; ((with_reducible refine (HMD.out _ HD3.out ht3).mono ?_); rintro r w4 ⟨rfl, gd', hap, hd4, ht4, hb4⟩; have q2 : w4.cell? ⟨D, 2, none⟩ = some G.nv := hd4.cell 2; have f2 := hd4.fro 2; have HD4 := Lib.hid hd4; clear hd4)))
      go_ret
      rw [HNL.out] at hap
      have hs3 := ht3.size
      refine ⟨rfl, _, HD4.out.noNames, ?_, .inr ⟨rfl, gd', hap, rfl⟩, fun k hk => ?_⟩
      · exact ((ht3.mono (fun i _ hh => .inl hh) : Turn (G.own D) w w3).trans ht4 (fun k _ hh => by rcases hh with hh | hh; exact .inl hh; exact .inr (.inr (.inl hh)))).set _ _ (fun _ => .inl rfl)
      · rcases hk with hk | hk | hk | hk | ⟨x, hx, _⟩ | hk
        · exact .inl (.inl hk)
        · exact .inl (.inr (.inl hk))
        · rcases hb4 k hk with h1 | h1
          · exact .inl (.inr (.inr (.inl h1)))
          · exact .inr (by omega)
        · cases hk
        · cases hx
        · exact .inl (.inr (.inr (.inr (.inr (.inr hk)))))
  · rw [ho] at hoff
    rw [if_pos rfl]
    unfold errV
    have HOF := Lib.hid ho
    clear h he hc hown hlen hfit hst ho
    go_enter Tryz.func64, Tryz.ntmps64
    go_wp2_with (go_at_call 16; refine hoff.mono ?_; rintro r w2 ⟨rfl, rfl⟩)
    go_ret
    exact ⟨rfl, G, HD.out, Turn.refl _ _, .inl ⟨by decide, .inl ⟨rfl, .inl HOF.out⟩⟩, fun k hk => .inl hk⟩

theorem SyncNames_any {w : World} {D : Nat} {G : DiskG} {E : Nat → Addr} (h : DiskAt w D G) (he : Env w E) (hc : G.crash < 9223372036854775808) (hown : ∀ k, k < 8 → ¬ G.own D k) (hlen : G.steps.length < 1099511627776)
    (hfit : ∀ j (hj : j < G.steps.length) gm, AppAll (G.nsteps.take j) G.gd gm → Fits (G.steps[j]'hj).s gm) :
    Calls Tryz.prog 21 #[.pointer (some ⟨D, 0, none⟩)] w fun r w' =>
      ∃ v G', r = .returned v ∧ ErrAt w' E v (syncNamesCode G) "names".toUTF8 ByteArray.empty ∧ DiskAt w' D G' ∧ Turn (G.own D) w w' ∧ SyncedNames G (syncNamesCode G) G' ∧ (∀ k, G'.own D k → G.own D k ∨ w.heap.size ≤ k) := by
  have h1 := syncNames_any h he hc hown hlen hfit
  have h2 := fun W => refused_err ⟨#[110, 97, 109, 101, 115]⟩ ⟨#[]⟩ E (syncNamesCode G) W
  have H1 := Lib.hid h1
  have H2 := Lib.hid h2
  clear h he hc hown hlen hfit h1 h2
  go_enter Tryz.func21, Tryz.ntmps21
  go_wp2_with (first
    | (go_at_call 64; ((with_reducible refine H1.out.mono ?_); rintro r w2 ⟨rfl, G', hd, ht, hcr, hnew⟩))
    | (go_at_call 55; ((with_reducible refine (H2.out _).mono ?_); rintro r w3 ⟨v, rfl, hv, hb⟩)))
  go_ret
  exact ⟨_, G', rfl, hv, hd.below hb, ht.trans (Turn.of_below hb : Turn (fun _ => False) _ _) (fun _ _ h => h.elim), hcr, hnew⟩

end Go.Proofs.YtmmlefbokplnnaaGreatDoor.Disk
